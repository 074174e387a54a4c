package types_test

import (
	"slices"
	"strings"
	"testing"

	"chancel/api"
	"chancel/types"
)

// The samples are what the rows are asked with; so they must be of the types that they say.
func TestP1101Samples(t *testing.T) {
	for _, x := range samples() {
		for _, e := range treesOf(t, x.kind) {
			checkType(t, usual(t), usualEnv(), e, x.kind)
		}
	}
}

func TestP1101Example(t *testing.T) {
	checkWrongs(t, api.ErrType, `1 == "1"`)
}

func TestP1101Leaves(t *testing.T) {
	checkTexts(t, map[string]string{
		`true`: "Bool", `false`: "Bool", `0`: "Long", `9223372036854775807`: "Long", `""`: "String", `"A"`: "String", `"123456789012345678901234567890"`: "String",
	})
}

func TestP1101Uid(t *testing.T) {
	checkTexts(t, map[string]string{
		`A::""`: "A", `A::"nobody"`: "A", `B::"a"`: "B", `C::"Action"`: "C", `Action::"a"`: "Action", `Action::"b"`: "Action", `Action::"A"`: "Action",
	})
	checkWrongs(t, api.ErrName, `D::""`, `D::"a"`, `a::"a"`, `b::"b"`, `Bool::""`, `Long::"1"`, `Set::""`, `String::""`, `action::"a"`, `Actions::"a"`, `AA::""`,
		`Action::""`, `Action::"c"`, `Action::"B"`, `Action::"C"`, `Action::"aa"`, `Action::" a"`, `Action::"Action"`)
}

// An action may have the name of the type of all actions.
func TestP1101UidOfAnActionNamedAction(t *testing.T) {
	s := made(t, `entity A {}; action Action: A -> A;`)
	checkType(t, s, env("A Action A"), entity("Action", "Action"), "Action")
	checkWrong(t, s, env("A Action A"), entity("Action", "A"), api.ErrName)
	checkWrong(t, api.Schema{}, env("A a A"), entity("Action", "a"), api.ErrName)
	checkWrong(t, api.Schema{}, env("A a A"), entity("A", "a"), api.ErrName)
}

func TestP1101Var(t *testing.T) {
	s := usual(t)
	for _, x := range []string{"A a B", "B a C", "C A A", "A b A"} {
		part := strings.Fields(x)
		checkType(t, s, env(x), variable("principal"), part[0])
		checkType(t, s, env(x), variable("action"), "Action")
		checkType(t, s, env(x), variable("resource"), part[2])
	}
}

// The environment is taken as it is, whether or not the schema has it.
func TestP1101VarOfAnyEnvironment(t *testing.T) {
	for _, s := range []api.Schema{usual(t), {}} {
		checkType(t, s, env("X y Z"), variable("principal"), "X")
		checkType(t, s, env("X y Z"), variable("action"), "Action")
		checkType(t, s, env("X y Z"), variable("resource"), "Z")
		checkType(t, s, env("Action Action Action"), variable("principal"), "Action")
		for _, x := range []string{"principal.a", "resource.a", "action.a"} {
			checkWrong(t, s, env("X y Z"), tree(t, x), api.ErrName)
			checkWrong(t, s, env("Action y Action"), tree(t, x), api.ErrName)
		}
	}
}

func TestP1101Set(t *testing.T) {
	for _, kind := range kindsOf(samples()) {
		l := treesOf(t, kind)
		if strings.HasPrefix(kind, "Set ") {
			checkWrong(t, usual(t), usualEnv(), node(api.OSet, l[0]), api.ErrType)
			checkWrong(t, usual(t), usualEnv(), node(api.OSet, l...), api.ErrType)
			continue
		}
		checkType(t, usual(t), usualEnv(), node(api.OSet, l[0]), "Set "+kind)
		checkType(t, usual(t), usualEnv(), node(api.OSet, l...), "Set "+kind)
		checkType(t, usual(t), usualEnv(), node(api.OSet, slices.Repeat(l[:1], 8)...), "Set "+kind)
	}
	checkWrongs(t, api.ErrType, `[]`, `[[]]`, `[[1]]`, `[[1], 1]`, `[1, [1]]`)
}

// Of sets of eight that are all of one type but one, wherever that stands.
func TestP1101SetOfTwoTypes(t *testing.T) {
	for _, a := range kindsOf(samples()) {
		for _, b := range kindsOf(samples()) {
			if a == b {
				continue
			}
			for at := range 8 {
				l := slices.Repeat(treesOf(t, a)[:1], 8)
				l[at] = treesOf(t, b)[0]
				checkWrong(t, usual(t), usualEnv(), node(api.OSet, l...), api.ErrType)
			}
			checkWrong(t, usual(t), usualEnv(), node(api.OSet, treesOf(t, a)[0], treesOf(t, b)[0]), api.ErrType)
		}
	}
}

func TestP1101Get(t *testing.T) {
	checkTexts(t, map[string]string{
		`principal.b`: "Bool", `principal.l`: "Long", `principal.s`: "String", `principal.u`: "B", `principal.v`: "A",
		`resource.b`: "Set Bool", `resource.l`: "Set Long", `resource.s`: "Set String", `resource.u`: "Set A", `resource.v`: "Set B",
		`C::"".A`: "C", `A::"nobody".l`: "Long", `principal.v.v.v.u.u`: "Set A", `(if true then principal else A::"x").l`: "Long",
	})
	for _, kind := range kindsOf(samples()) {
		for _, e := range treesOf(t, kind) {
			want := api.ErrType
			if slices.Contains([]string{"A", "B", "C", "Action"}, kind) {
				want = api.ErrName
			}
			for _, name := range []string{"x", "a", "B", "ll", "L", "_", "Action", "id", "contains"} {
				checkWrong(t, usual(t), usualEnv(), named(api.OGet, name, e), want)
			}
		}
	}
	checkWrongs(t, api.ErrName, `C::"".l`, `principal.A`, `action.l`, `action.A`, `Action::"A".A`, `Action::"a".b`)
}

// rows are the operations with a fixed count of kids, whose answer hangs on the types of these alone: what they answer, and of which types their kids may be.
type row struct {
	ops    []int
	answer string
	kids   string
}

func rowsOfOne() []row {
	return []row{
		{[]int{api.OHas}, "Bool", "A; B; C; Action"},
		{[]int{api.OLike}, "Bool", "String"},
		{[]int{api.ONot}, "Bool", "Bool"},
		{[]int{api.ONeg}, "Long", "Long"},
	}
}

// oneKid makes a node of an operation; those that have a text have one that is no field of any kind.
func oneKid(op int, kid api.Expr) api.Expr {
	e := node(op, kid)
	if op == api.OHas || op == api.OLike {
		e.S = "nothing"
	}
	return e
}

func TestP1101OneKid(t *testing.T) {
	for _, r := range rowsOfOne() {
		allowed := strings.Split(r.kids, "; ")
		for _, op := range r.ops {
			for _, kind := range kindsOf(samples()) {
				for _, e := range treesOf(t, kind) {
					if slices.Contains(allowed, kind) {
						checkType(t, usual(t), usualEnv(), oneKid(op, e), r.answer)
					} else {
						checkWrong(t, usual(t), usualEnv(), oneKid(op, e), api.ErrType)
					}
				}
			}
		}
	}
}

func TestP1101Has(t *testing.T) {
	checkTexts(t, map[string]string{`principal has l`: "Bool", `principal has nothing`: "Bool", `action has a`: "Bool", `Action::"a" has A`: "Bool", `C::"" has A`: "Bool", `principal.u has x`: "Bool"})
	checkType(t, api.Schema{}, env("X y Z"), tree(t, `principal has x`), "Bool")
	checkWrongs(t, api.ErrType, `1 has l`, `resource.u has l`, `[principal] has l`, `principal.l has l`)
}

const uids, sets = "A B C Action", "Set A,Set B,Set C,Set Action"

// pairs joins each of a list with each of another one.
func pairs(a, b []string) string {
	var l []string
	for _, x := range a {
		for _, y := range b {
			l = append(l, x+", "+y)
		}
	}
	return strings.Join(l, "; ")
}

func rowsOfTwo() []row {
	alike := "Bool, Bool; Long, Long; String, String; Set Bool, Set Bool; Set Long, Set Long; Set String, Set String; Set A, Set A; Set B, Set B; Set C, Set C; Set Action, Set Action; "
	each, eachSet := strings.Fields(uids), strings.Split(sets, ",")
	return []row{
		{[]int{api.OMul, api.OAdd, api.OSub}, "Long", "Long, Long"},
		{[]int{api.OLess, api.OLeast, api.OMore, api.OMost}, "Bool", "Long, Long"},
		{[]int{api.OSame, api.OOther}, "Bool", alike + pairs(each, each)},
		{[]int{api.OIn}, "Bool", pairs(each, append(each, eachSet...))},
		{[]int{api.OAnd, api.OOr}, "Bool", "Bool, Bool"},
		{[]int{api.OHolds}, "Bool", "Set Bool, Bool; Set Long, Long; Set String, String; Set A, A; Set B, B; Set C, C; Set Action, Action"},
	}
}

func TestP1101TwoKids(t *testing.T) {
	for _, r := range rowsOfTwo() {
		allowed := strings.Split(r.kids, "; ")
		for _, op := range r.ops {
			for _, a := range kindsOf(samples()) {
				for _, b := range kindsOf(samples()) {
					checkTwo(t, op, a, b, slices.Contains(allowed, a+", "+b), r.answer)
				}
			}
		}
	}
}

// checkTwo holds an operation of all trees of two types against what it answers, if it may be.
func checkTwo(t *testing.T, op int, a, b string, allowed bool, answer string) {
	t.Helper()
	for _, x := range treesOf(t, a) {
		for _, y := range treesOf(t, b) {
			if allowed {
				checkType(t, usual(t), usualEnv(), node(op, x, y), answer)
			} else {
				checkWrong(t, usual(t), usualEnv(), node(op, x, y), api.ErrType)
			}
		}
	}
}

func TestP1101If(t *testing.T) {
	words := kindsOf(samples())
	for _, cond := range words {
		for _, a := range words {
			for _, b := range words {
				e := node(api.OIf, treesOf(t, cond)[0], treesOf(t, a)[0], treesOf(t, b)[0])
				if cond == "Bool" && a == b {
					checkType(t, usual(t), usualEnv(), e, a)
				} else {
					checkWrong(t, usual(t), usualEnv(), e, api.ErrType)
				}
			}
		}
	}
	checkTexts(t, map[string]string{`if true then principal else principal.v`: "A", `if 1 == 2 then resource.u else [principal]`: "Set A", `if if true then true else false then 1 else 2`: "Long"})
}

// Whether a part would ever be looked at is not asked.
func TestP1101PartsThatAreNeverReached(t *testing.T) {
	checkWrongs(t, api.ErrType, `false && (1 + true)`, `true || 1`, `if true then 1 else "a"`, `if false then 1 + true else 1`, `principal has l && principal.l`)
	checkWrongs(t, api.ErrName, `false && D::"" == principal`, `if true then 1 else D::""`, `resource has x && resource.x == 1`)
}

func TestP1101DeepAndWide(t *testing.T) {
	e := truth(true)
	for range 99 {
		e = node(api.ONot, e)
	}
	checkType(t, usual(t), usualEnv(), e, "Bool")
	e = long(1)
	for range 99 {
		e = node(api.OAdd, long(1), e)
	}
	checkType(t, usual(t), usualEnv(), e, "Long")
	e = variable("principal")
	for range 99 {
		e = named(api.OGet, "v", e)
	}
	checkType(t, usual(t), usualEnv(), e, "A")
	checkWrong(t, usual(t), usualEnv(), named(api.OGet, "x", e), api.ErrName)
}

// What env says of the action is not asked: it is a uid of the same type, whichever it is.
func TestP1101TheActionOfAnEnvironment(t *testing.T) {
	for _, name := range []string{"a", "b", "A", "", "nothing", "Action"} {
		x := types.Env{Principal: "A", Action: name, Resource: "B"}
		checkType(t, usual(t), x, tree(t, `action == Action::"a"`), "Bool")
		checkWrong(t, usual(t), x, tree(t, `action == Action::"c"`), api.ErrName)
	}
}
