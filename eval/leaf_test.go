package eval_test

import (
	"math"
	"testing"

	"chancel/api"
	"chancel/eval"
)

func TestExample1(t *testing.T) {
	checkFalse(t, `false && (1 + true)`)
}

// What stands by itself in a tree is the same among whatever entities.
func TestP1301Leaves(t *testing.T) {
	for _, l := range [][]api.Entity{nil, {}, usual(t)} {
		for _, b := range []bool{false, true} {
			checkValue(t, l, api.Expr{Op: api.OBool, B: b}, truth(b))
		}
		for _, n := range []int64{0, 1, 9, math.MaxInt64 - 1, math.MaxInt64} {
			checkValue(t, l, api.Expr{Op: api.OLong, N: n}, long(n))
		}
		for _, s := range []string{"", "a", "principal", "true", "1", "*", "\x00\n\"\\", longText("é"), longText("😀")} {
			checkValue(t, l, named(api.OStr, s), str(s))
			checkValue(t, l, api.Expr{Op: api.OUid, U: uid("A", s)}, ref("A", s))
		}
		for _, kind := range []string{"A", "Action", "principal", "_", "abcdefghijkl"} {
			checkValue(t, l, api.Expr{Op: api.OUid, U: uid(kind, "a")}, ref(kind, "a"))
		}
	}
}

// Whether those of a request are there is not asked, nor of which types they are.
func TestP1301Variables(t *testing.T) {
	for _, r := range []api.Request{
		request(),
		{Principal: uid("A", "b"), Action: uid("A", "c"), Resource: uid("A", "d")},
		{Principal: uid("Action", ""), Action: uid("B", "gone"), Resource: uid("principal", "x")},
		{Principal: uid("A", "a"), Action: uid("A", "a"), Resource: uid("A", "a")},
	} {
		for _, l := range [][]api.Entity{nil, usual(t)} {
			for name, u := range map[string]api.Uid{"principal": r.Principal, "action": r.Action, "resource": r.Resource} {
				got, err := eval.Expr(l, r, named(api.OVar, name))
				if err != api.OK || !alike(got, api.Value{Kind: api.VUid, U: u}) {
					t.Errorf("%s: %v, %#v; want %v", name, err, got, u)
				}
			}
		}
	}
}

// The tree says which entity is asked, and the request which one a variable is.
func TestP1301VariablesWithin(t *testing.T) {
	r := api.Request{Principal: uid("A", "b"), Action: uid("B", "c"), Resource: uid("A", "a")}
	for text, want := range map[string]api.Value{
		`principal.l`: long(-math.MaxInt64), `action.b`: long(4), `resource.s`: str("hello"), `principal in action`: truth(true), `resource.u has u`: truth(true), `resource in principal`: truth(true), `action in resource`: truth(false),
	} {
		got, err := eval.Expr(usual(t), r, tree(t, text))
		if err != api.OK || !alike(got, want) {
			t.Errorf("%s: %v, %#v; want %#v", text, err, got, want)
		}
	}
}
