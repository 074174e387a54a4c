package types_test

import (
	"math/rand"
	"testing"

	"chancel/api"
	"chancel/types"
)

// oddSchema is one that schema.Check refuses in many ways.
func oddSchema() api.Schema {
	k := api.Kind{Name: "A", Parents: []string{"X", "A"}, Fields: []api.Field{
		{Name: "x", Type: api.Type{Kind: 9, Of: 9, Name: "X"}}, {Name: "x"}, {}, {Name: "l", Type: api.Type{Kind: -1}},
		{Name: "b", Type: api.Type{Kind: api.TSet, Of: api.TSet}}, {Name: "u", Type: api.Type{Kind: api.TUid}}, {Name: "v", Type: api.Type{Kind: api.TBool, Of: 3, Name: "A"}},
	}}
	a := api.Action{Name: "a", Principals: []string{"X", "A", "Action", ""}, Resources: []string{"\xff", "A", "Action", "B"}}
	return api.Schema{
		Kinds:   []api.Kind{k, {}, {Name: "Action", Fields: k.Fields}, {Name: "\xff"}, k, {Name: "Bool", Fields: k.Fields}, {Name: "B", Fields: k.Fields}},
		Actions: []api.Action{a, {}, {Name: "Action"}, a, {Name: "\xff", Principals: a.Principals}, {Name: "b", Resources: a.Principals}, {Name: "z", Principals: []string{"B"}, Resources: []string{"B"}}},
	}
}

// oddPolicy has scopes and trees that no text makes.
func oddPolicy() api.Policy {
	return api.Policy{
		Principal: api.Scope{Kind: 7, U: uid("\xff", "")}, Action: api.Scope{Kind: -1, U: uid("Action", "a")}, Resource: api.Scope{Kind: api.SSame, U: uid("", "\xff")},
		Conds: []api.Cond{{}, {E: node(api.OIf)}, {E: node(99, truth(true))}, {E: node(api.OAdd, long(-1))}, {E: named(api.OVar, "nobody")}, {E: node(api.OBool, node(api.OGet))}},
	}
}

// Of each operation, and of some that are none, with each count of kids: the call ends, and beside an error stands nothing (P1, P4).
func TestP1AnyCountOfKids(t *testing.T) {
	for op := -2; op <= 30; op++ {
		for count := range 12 {
			for _, kid := range []api.Expr{truth(true), long(1), variable("principal"), node(api.OSet, long(1)), {}} {
				e := named(op, "l")
				for range count {
					e.Kids = append(e.Kids, kid)
				}
				for _, s := range []api.Schema{usual(t), oddSchema(), {}} {
					got, err := types.Of(s, usualEnv(), e)
					if err != api.OK && got != (api.Type{}) {
						t.Errorf("%d of %d: %v, %+v", op, count, err, got)
					}
				}
				types.Check(usual(t), api.Policy{Conds: []api.Cond{{E: e}}})
			}
		}
	}
}

// randomOdd makes trees of any operations, with any kids.
func randomOdd(r *rand.Rand, depth int) api.Expr {
	texts := []string{"", "principal", "action", "resource", "a", "l", "x", "\xff", "nobody"}
	e := api.Expr{Op: r.Intn(29) - 1, B: r.Intn(2) == 0, N: r.Int63() - r.Int63(), S: pick(r, texts), U: uid(pick(r, []string{"A", "B", "Action", "", "\xff"}), pick(r, texts))}
	if depth > 1 {
		for range r.Intn(4) {
			e.Kids = append(e.Kids, randomOdd(r, depth-1))
		}
	}
	return e
}

func TestP1RandomTrees(t *testing.T) {
	r := rand.New(rand.NewSource(5))
	for range 20000 {
		e := randomOdd(r, 1+r.Intn(5))
		p := oddPolicy()
		p.Principal.Kind, p.Action.Kind, p.Resource.Kind = r.Intn(5)-1, r.Intn(5)-1, r.Intn(5)-1
		p.Conds = append([]api.Cond{{E: e}}, p.Conds...)
		for _, s := range []api.Schema{usual(t), oddSchema(), {}} {
			got, err := types.Of(s, usualEnv(), e)
			again, same := types.Of(s, usualEnv(), e)
			if got != again || err != same || err != api.OK && got != (api.Type{}) {
				t.Fatalf("%v, %+v; %v, %+v: %s", err, got, same, again, dump(e))
			}
			if types.Check(s, p) != types.Check(s, p) || dump(types.Envs(s, p)) != dump(types.Envs(s, p)) {
				t.Fatalf("another answer: %s", dump(p))
			}
		}
	}
}

// Trees as deep as may be handed in, and wide ones.
func TestP1DeepAndWide(t *testing.T) {
	for op := api.OSet; op <= api.OIf; op++ {
		e := truth(true)
		for range 99 {
			e = named(op, "l", e)
		}
		types.Of(usual(t), usualEnv(), e)
		types.Check(usual(t), api.Policy{Conds: []api.Cond{{E: e}}})
	}
	wide := node(api.OSet)
	for range 200000 {
		wide.Kids = append(wide.Kids, variable("principal"))
	}
	types.Of(usual(t), usualEnv(), wide)
	many := usual(t)
	for range 10000 {
		many.Actions = append(many.Actions, api.Action{Name: "a", Principals: []string{"A", "B"}, Resources: []string{"A"}})
	}
	types.Check(many, api.Policy{Conds: []api.Cond{{E: truth(true)}}})
}
