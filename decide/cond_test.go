package decide_test

import (
	"strings"
	"testing"

	"chancel/api"
)

func TestP1401NoConditions(t *testing.T) {
	checkConds(t, ``, true, api.OK)
	checkOne(t, usual(t), request(), api.Policy{}, true, api.OK)
	checkOne(t, usual(t), request(), api.Policy{Forbid: true, Conds: []api.Cond{}}, true, api.OK)
	checkOne(t, nil, api.Request{}, api.Policy{}, true, api.OK)
}

func TestP1401OneCondition(t *testing.T) {
	for text, is := range map[string]bool{
		`true`: true, `false`: false, `principal.b`: true, `A::"b".b`: false, `principal.n == 1`: true, `principal.n == 2`: false, `!principal.b`: false,
		`principal in A::"gone"`: true, `resource in principal`: false, `principal in C::"top"`: true, `resource has n`: false, `principal has n`: true, `Z::"none" has n`: false,
		`principal == A::"a"`: true, `action == Action::"go"`: true, `resource == A::"d"`: true, `principal == resource`: false, `action in Action::"all"`: true,
		`principal.l.contains(2)`: true, `principal.l.contains(3)`: false, `principal.s like "*"`: true, `principal.u == A::"b"`: true,
		`false && 1`: false, `true || 1 + true`: true, `if true then false else 1`: false,
	} {
		checkConds(t, `when { `+text+` }`, is, api.OK)
		checkConds(t, `unless { `+text+` }`, !is, api.OK)
	}
}

// A condition is asked of the request and the entities that were handed in.
func TestP1401ConditionsOfTheRequest(t *testing.T) {
	p := policy(t, `permit(principal, action, resource) when { principal.n == 2 && resource == C::"x" } unless { action == Action::"no" };`)
	checkOne(t, usual(t), request(), p, false, api.OK)
	r := api.Request{Principal: uid("A", "b"), Action: uid("Action", "go"), Resource: uid("C", "x")}
	checkOne(t, usual(t), r, p, true, api.OK)
	checkOne(t, row(t, `A::"b" { n: 3 };`), r, p, false, api.OK)
	checkOne(t, row(t, `A::"b" { m: 2 };`), r, p, false, api.ErrName)
	checkOne(t, nil, r, p, false, api.ErrGone)
	r.Action.Id = "no"
	checkOne(t, usual(t), r, p, false, api.OK)
	r.Resource.Id = "y"
	checkOne(t, usual(t), r, p, false, api.OK)
}

// Each kind of value that is no truth: neither when nor unless may have it, not even such as are like a truth.
func TestP1401ValuesThatAreNoTruth(t *testing.T) {
	for _, text := range []string{
		`0`, `1`, `-1`, `""`, `"true"`, `"false"`, `A::"a"`, `A::"gone"`, `principal`, `action`, `resource`, `[]`, `[true]`, `[false]`, `[true, false]`, `[1]`, `["a"]`, `[principal]`,
		`principal.n`, `principal.s`, `principal.u`, `principal.l`, `1 + 1`, `-principal.n`, `if true then 1 else true`, `if principal.b then principal else false`,
	} {
		checkConds(t, `when { `+text+` }`, false, api.ErrType)
		checkConds(t, `unless { `+text+` }`, false, api.ErrType)
	}
}

func TestP1401ErrorsOfAnExpression(t *testing.T) {
	for text, want := range map[string]api.Errno{
		`1 + true`: api.ErrType, `!1`: api.ErrType, `1 && true`: api.ErrType, `true && 1`: api.ErrType, `principal.n.n`: api.ErrType, `[1, true]`: api.ErrType, `principal in 1`: api.ErrType,
		`principal.x`: api.ErrName, `resource.n`: api.ErrName, `principal.x == 1`: api.ErrName, `resource.x && 1 + true`: api.ErrName,
		`A::"gone".n`: api.ErrGone, `action.n`: api.ErrName, `Z::"none".n == 1`: api.ErrGone, `A::"gone".n + true`: api.ErrGone,
		`A::"c".n + 1 == 1`: api.ErrOver, `9223372036854775807 * 2`: api.ErrOver, `(A::"c".n + 1 == 1) && A::"gone".b`: api.ErrOver,
	} {
		checkConds(t, `when { `+text+` }`, false, want)
		checkConds(t, `unless { `+text+` }`, false, want)
	}
	// A set of too many is no tree of the language; its error is told as well.
	many := api.Expr{Op: api.OSet}
	for i := range api.MaxSet + 1 {
		many.Kids = append(many.Kids, api.Expr{Op: api.OLong, N: int64(i)})
	}
	checkOne(t, usual(t), request(), api.Policy{Conds: []api.Cond{{E: many}}}, false, api.ErrMany)
	checkOne(t, usual(t), request(), api.Policy{Conds: []api.Cond{{Unless: true, E: many}}}, false, api.ErrMany)
}

// condition is one as text, whether it holds, and its error.
type condition struct {
	text string
	is   bool
	err  api.Errno
}

func conditions() []condition {
	return []condition{
		{`when { principal.n == 1 }`, true, api.OK},
		{`unless { resource has n }`, true, api.OK},
		{`when { false }`, false, api.OK},
		{`unless { principal.b }`, false, api.OK},
		{`when { 1 }`, false, api.ErrType},
		{`unless { "a" }`, false, api.ErrType},
		{`when { principal.x }`, false, api.ErrName},
		{`unless { A::"gone".n == 1 }`, false, api.ErrGone},
		{`when { A::"c".n + 1 == 1 }`, false, api.ErrOver},
		{`unless { true && 1 }`, false, api.ErrType},
	}
}

// All rows of up to three conditions, and those of as many as there may be: the first one that does not hold tells, be it by an error or not.
func TestP1401ConditionsInOrder(t *testing.T) {
	check := func(l []condition) {
		want, wrong := true, api.OK
		var texts []string
		for _, c := range l {
			texts = append(texts, c.text)
			if want {
				want, wrong = c.is, c.err
			}
		}
		p := policy(t, `forbid(principal in A::"b", action, resource == A::"d") `+strings.Join(texts, " ")+`;`)
		checkOne(t, usual(t), request(), p, want, wrong)
	}
	sequences(conditions(), 3, check)
	all := conditions()
	few := []condition{all[0], all[1], all[2], all[4], all[7]}
	sequences(few, 4, check)
}

// Conditions may be more than a text has: each of them counts.
func TestP1401ManyConditions(t *testing.T) {
	yes := policy(t, `permit(principal, action, resource) when { principal.n == 1 };`).Conds[0]
	for _, c := range conditions() {
		last := policy(t, `permit(principal, action, resource) `+c.text+`;`).Conds[0]
		var p api.Policy
		for range 1000 {
			p.Conds = append(p.Conds, yes)
		}
		p.Conds = append(p.Conds, last, yes)
		if got, err := one(t, p); got != c.is || err != c.err {
			t.Errorf("%s: %v, %v", c.text, got, err)
		}
	}
}
