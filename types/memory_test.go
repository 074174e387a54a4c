package types_test

import (
	"slices"
	"testing"

	"chancel/api"
	"chancel/types"
)

// spoil writes into all that a list has, its spare room too.
func spoil[T any](l []T, with T) {
	l = l[:cap(l)]
	for i := range l {
		l[i] = with
	}
}

// roomy is a list with the same elements, and room behind them that is written full.
func roomy[T any](l []T, with T) []T {
	all := append(append(make([]T, 0, len(l)+2), l...), with, with)
	return all[:len(l)]
}

// roomySchema, roomyTree and roomyPolicy have room behind each of their lists; what lies there errs, were it asked.
func roomySchema(s api.Schema) api.Schema {
	s.Kinds = roomy(s.Kinds, api.Kind{Name: "Spare"})
	s.Actions = roomy(s.Actions, api.Action{Name: "spare", Principals: []string{"Spare"}, Resources: []string{"Spare"}})
	for i, k := range s.Kinds {
		s.Kinds[i].Parents, s.Kinds[i].Fields = roomy(k.Parents, "Spare"), roomy(k.Fields, api.Field{Name: "spare", Type: typeOf("Bool")})
	}
	for i, a := range s.Actions {
		s.Actions[i].Principals, s.Actions[i].Resources = roomy(a.Principals, "Spare"), roomy(a.Resources, "Spare")
	}
	return s
}

func roomyTree(e api.Expr) api.Expr {
	e.Kids = roomy(e.Kids, entity("Spare", "x"))
	for i, kid := range e.Kids {
		e.Kids[i] = roomyTree(kid)
	}
	return e
}

func roomyPolicy(p api.Policy) api.Policy {
	p.Conds = roomy(p.Conds, api.Cond{E: entity("Spare", "x")})
	for i, c := range p.Conds {
		p.Conds[i].E = roomyTree(c.E)
	}
	return p
}

// wholeSchema, wholeTree and wholePolicy have all that was handed in, the spare room too, in lists of their own.
func wholeSchema(s api.Schema) api.Schema {
	s.Kinds, s.Actions = slices.Clone(s.Kinds[:cap(s.Kinds)]), slices.Clone(s.Actions[:cap(s.Actions)])
	for i, k := range s.Kinds {
		s.Kinds[i].Parents, s.Kinds[i].Fields = slices.Clone(k.Parents[:cap(k.Parents)]), slices.Clone(k.Fields[:cap(k.Fields)])
	}
	for i, a := range s.Actions {
		s.Actions[i].Principals, s.Actions[i].Resources = slices.Clone(a.Principals[:cap(a.Principals)]), slices.Clone(a.Resources[:cap(a.Resources)])
	}
	return s
}

func wholeTree(e api.Expr) api.Expr {
	e.Kids = slices.Clone(e.Kids[:cap(e.Kids)])
	for i, kid := range e.Kids {
		e.Kids[i] = wholeTree(kid)
	}
	return e
}

func wholePolicy(p api.Policy) api.Policy {
	p.Conds = slices.Clone(p.Conds[:cap(p.Conds)])
	for i, c := range p.Conds {
		p.Conds[i].E = wholeTree(c.E)
	}
	return p
}

// handed are policies with a schema each, all lists of which have spare room.
type handed struct {
	s api.Schema
	p api.Policy
}

func allHanded(t *testing.T) []handed {
	t.Helper()
	var l []handed
	for _, text := range []string{
		`permit(principal, action, resource);`,
		`permit(principal == A::"", action, resource in D::"");`,
		`permit(principal in A::"", action == Action::"z", resource);`,
		`permit(principal == A::"", action, resource) when { [principal, principal.v] == [A::""] && principal.u.u.contains(principal) } unless { if action in [action] then 1 < 2 else principal.s like "*" };`,
		`forbid(principal, action, resource) when { principal has x } when { [1, true] == [2] } when { D::"".x };`,
		`forbid(principal == B::"", action, resource == A::"") when { [] == [[1]] };`,
	} {
		l = append(l, handed{roomySchema(usual(t)), roomyPolicy(policy(t, text))})
	}
	return append(l, handed{roomySchema(oddSchema()), roomyPolicy(oddPolicy())}, handed{})
}

func (h handed) dump() string { return dump(wholeSchema(h.s)) + dump(wholePolicy(h.p)) }

// ask makes each call, and hands over the lists that were answered, and all of what was told.
func (h handed) ask(lists func([]types.Env)) string {
	var told []any
	for _, c := range h.p.Conds {
		for _, x := range []types.Env{usualEnv(), {}, {Principal: "\xff", Action: "a", Resource: "Action"}} {
			got, err := types.Of(h.s, x, c.E)
			told = append(told, got, err)
		}
	}
	envs := types.Envs(h.s, h.p)
	told = append(told, slices.Clone(envs), types.Check(h.s, h.p))
	lists(envs)
	return dump(told)
}

// What is handed in is left alone, its spare room too, also where the answer is written into.
func TestP2WhatIsHandedInIsLeftAlone(t *testing.T) {
	for _, h := range allHanded(t) {
		before := h.dump()
		h.ask(func([]types.Env) {})
		if h.dump() != before {
			t.Errorf("changed: %s; was %s", h.dump(), before)
		}
		h.ask(func(l []types.Env) { spoil(l, types.Env{Principal: "Spoilt", Action: "spoilt", Resource: "Spoilt"}) })
		if h.dump() != before {
			t.Errorf("shared with the answer: %s; was %s", h.dump(), before)
		}
	}
}

// Nothing is kept: calls answer the same again, whatever became of earlier answers and of what was handed in to other calls (P2, P3).
func TestP3TheSameAgain(t *testing.T) {
	var first []string
	for _, h := range allHanded(t) {
		first = append(first, h.ask(func(l []types.Env) { spoil(l, types.Env{Principal: "Spoilt"}) }))
		for i := range h.s.Actions {
			spoil(h.s.Actions[i].Principals, "Spoilt")
		}
		spoil(h.s.Kinds, api.Kind{Name: "Spoilt"})
		spoil(h.p.Conds, api.Cond{})
	}
	for i, h := range allHanded(t) {
		for range 3 {
			if again := h.ask(func([]types.Env) {}); again != first[i] {
				t.Errorf("%d: %s; was %s", i, again, first[i])
			}
		}
	}
}

// An answer stays as it is, whatever becomes of what was handed in, and of another answer.
func TestP2AnswersAreNewMemory(t *testing.T) {
	for _, h := range allHanded(t) {
		one, other := types.Envs(h.s, h.p), types.Envs(h.s, h.p)
		before := dump(one)
		spoil(other, types.Env{Principal: "Spoilt"})
		for i := range h.s.Actions {
			spoil(h.s.Actions[i].Principals, "Spoilt")
			spoil(h.s.Actions[i].Resources, "Spoilt")
		}
		spoil(h.s.Actions, api.Action{Name: "spoilt"})
		if dump(one) != before {
			t.Errorf("%s; was %s", dump(one), before)
		}
	}
}

// What lies in the spare room is not asked.
func TestP2SpareRoomIsNotAsked(t *testing.T) {
	s := roomySchema(usual(t))
	checkEnvs(t, s, roomyPolicy(policy(t, `permit(principal, action, resource);`)), all)
	checkPolicy(t, s, roomyPolicy(policy(t, `permit(principal, action, resource) when { true };`)), api.OK)
	checkPolicy(t, s, roomyPolicy(policy(t, `permit(principal == Spare::"", action, resource);`)), api.ErrName)
	checkPolicy(t, s, roomyPolicy(policy(t, `permit(principal, action == Action::"spare", resource);`)), api.ErrName)
	for _, x := range samples() {
		for _, e := range treesOf(t, x.kind) {
			checkType(t, s, usualEnv(), roomyTree(e), x.kind)
		}
	}
	checkWrong(t, s, usualEnv(), tree(t, `principal.spare`), api.ErrName)
	checkWrong(t, s, usualEnv(), entity("Spare", ""), api.ErrName)
	checkWrong(t, s, usualEnv(), roomyTree(node(api.OSet)), api.ErrType)
}
