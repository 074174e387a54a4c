package decide_test

import (
	"fmt"
	"math/rand"
	"slices"
	"testing"

	"chancel/api"
	"chancel/decide"
	"chancel/eval"
	"chancel/parse"
	"chancel/show"
)

func pick[T any](r *rand.Rand, l []T) T { return l[r.Intn(len(l))] }

func randomUid(r *rand.Rand) api.Uid {
	return uid(pick(r, []string{"A", "B"}), pick(r, []string{"a", "b", "c", "d"}))
}

// randomRow has some of the uids, with parents that need not be there; circles come about.
func randomRow(t *testing.T, r *rand.Rand) []api.Entity {
	t.Helper()
	var texts []string
	for _, kind := range []string{"A", "B"} {
		for _, id := range []string{"a", "b", "c", "d"} {
			if r.Intn(4) == 0 {
				continue
			}
			text, join := kind+`::"`+id+`"`, ` in `
			for range r.Intn(3) {
				text, join = text+join+show.Uid(randomUid(r)), `, `
			}
			texts = append(texts, text+pick(r, []string{` {};`, ` { n: 1, b: true };`, ` { n: 2, b: false };`, ` { n: "2", b: 1 };`, ` { n: 9223372036854775807 };`}))
		}
	}
	return row(t, texts...)
}

func randomScope(r *rand.Rand) string {
	if r.Intn(2) == 0 {
		return ``
	}
	return pick(r, []string{` == `, ` in `, ` in `, ` in `}) + show.Uid(randomUid(r))
}

func randomCond(r *rand.Rand) string {
	word, u := pick(r, []string{`when`, `when`, `unless`}), show.Uid(randomUid(r))
	return word + ` { ` + pick(r, []string{
		`true`, `true`, `false`, `1`, `9223372036854775807 + 1 == 1`, `principal.b`, `resource.b`, `principal has b`, `action has b && action.b`, `principal.n + 1 == 2`, `resource.n - 1 > 0`, `principal in ` + u, u + ` in resource`,
		`resource in [principal, ` + u + `]`, u + `.b || true`, u + ` has n`, `principal == resource`, `!(` + u + `.n == 1)`, `if principal.b then resource.b else principal.n`,
	}) + ` }`
}

func randomPolicy(t *testing.T, r *rand.Rand) api.Policy {
	t.Helper()
	text := pick(r, effects())
	for _, name := range []string{`(principal`, `, action`, `, resource`} {
		text += name + randomScope(r)
	}
	text += `)`
	for range pick(r, []int{0, 1, 1, 2, 3, 4}) {
		text += ` ` + randomCond(r)
	}
	return policy(t, text+`;`)
}

// model tells the promises once more, of entities and a request. Scopes are told as conditions that stand ahead of all others.
type model struct {
	l []api.Entity
	r api.Request
}

func (m model) one(t *testing.T, p api.Policy) (bool, api.Errno) {
	t.Helper()
	for i, s := range []api.Scope{p.Principal, p.Action, p.Resource} {
		name, sign := []string{`principal`, `action`, `resource`}[i], []string{``, ` == `, ` in `}[s.Kind]
		if sign == `` {
			continue
		}
		e, err := parse.Expr(name + sign + show.Uid(s.U))
		if err != api.OK {
			t.Fatal(err)
		}
		if v, err := eval.Expr(m.l, m.r, e); err != api.OK || !v.B {
			return false, err
		}
	}
	for _, c := range p.Conds {
		v, err := eval.Expr(m.l, m.r, c.E)
		if err != api.OK {
			return false, err
		}
		if v.Kind != api.VBool {
			return false, api.ErrType
		}
		if v.B == c.Unless {
			return false, api.OK
		}
	}
	return true, api.OK
}

// all tells an answer by looking for each thing anew.
func (m model) all(t *testing.T, ps []decide.Named) string {
	t.Helper()
	those := func(want func(p api.Policy, is bool, err api.Errno) bool) []string {
		var names []string
		for _, n := range ps {
			if is, err := m.one(t, n.P); want(n.P, is, err) {
				names = append(names, n.Name)
			}
		}
		return names
	}
	a := api.Answer{
		Reasons: those(func(p api.Policy, is bool, _ api.Errno) bool { return is && p.Forbid }),
		Errors:  those(func(_ api.Policy, _ bool, err api.Errno) bool { return err != api.OK }),
	}
	if len(a.Reasons) == 0 {
		a.Reasons = those(func(_ api.Policy, is bool, _ api.Errno) bool { return is })
		a.Allow = len(a.Reasons) > 0
	}
	return told(a)
}

func TestP1401And1402AgainstAModel(t *testing.T) {
	r := rand.New(rand.NewSource(5))
	ones, answers := map[string]int{}, map[string]int{}
	for range 3000 {
		m := model{randomRow(t, r), api.Request{Principal: randomUid(r), Action: randomUid(r), Resource: randomUid(r)}}
		var ps []decide.Named
		for i := range r.Intn(api.MaxPolicies + 1) {
			p := randomPolicy(t, r)
			want, wrong := m.one(t, p)
			checkOne(t, m.l, m.r, p, want, wrong)
			ones[fmt.Sprint(want, wrong)]++
			ps = append(ps, decide.Named{Name: pick(r, []string{"same", fmt.Sprint(i)}), P: p})
		}
		got, want := decide.All(m.l, m.r, ps), m.all(t, ps)
		if told(got) != want {
			t.Fatalf("%s; want %s; of %+v among %+v", told(got), want, ps, m.l)
		}
		answers[fmt.Sprint(got.Allow, len(got.Reasons) > 0, len(got.Errors) > 0)]++
	}
	for _, x := range []string{"true ok", "false ok", "false type", "false name", "false gone", "false over"} {
		if ones[x] < 100 {
			t.Errorf("%v", ones)
		}
	}
	if len(ones) != 6 || len(answers) != 6 || slices.ContainsFunc(countsOf(answers), func(n int) bool { return n < 100 }) {
		t.Errorf("%v, %v", ones, answers)
	}
}

func countsOf(m map[string]int) []int {
	var l []int
	for _, n := range m {
		l = append(l, n)
	}
	return l
}
