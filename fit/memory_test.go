package fit_test

import (
	"slices"
	"testing"

	"chancel/api"
	"chancel/ents"
	"chancel/fit"
)

// spoil writes into all that a list has, its spare room too.
func spoil[T any](l []T, with T) {
	l = l[:cap(l)]
	for i := range l {
		l[i] = with
	}
}

// roomy is a list with the same elements, and room behind them that is written full.
func roomy[T any](l []T, with T) []T {
	all := append(append(make([]T, 0, len(l)+2), l...), with, with)
	return all[:len(l)]
}

// handed is what the calls are given, each list of which has spare room; what lies there would change the answers, were it asked.
type handed struct {
	s api.Schema
	l []api.Entity
	e api.Entity
}

func roomySchema(s api.Schema) api.Schema {
	s.Kinds = roomy(s.Kinds, api.Kind{Name: "Spare"})
	s.Actions = roomy(s.Actions, api.Action{Name: "spare"})
	for i, k := range s.Kinds {
		s.Kinds[i].Parents, s.Kinds[i].Fields = roomy(k.Parents, "Spare"), roomy(k.Fields, api.Field{Name: "spare", Type: typeOf("Long")})
	}
	for i, a := range s.Actions {
		s.Actions[i].Principals, s.Actions[i].Resources = roomy(a.Principals, "Spare"), roomy(a.Resources, "Spare")
	}
	return s
}

func roomyEntity(e api.Entity) api.Entity {
	e.Parents, e.Attrs = roomy(e.Parents, uid("Spare", "x")), roomy(e.Attrs, attr("spare", long(1)))
	for i, a := range e.Attrs {
		e.Attrs[i].V.L = roomy(a.V.L, ref("Spare", "x"))
	}
	return e
}

func roomyRow(l []api.Entity) []api.Entity {
	l = roomy(l, api.Entity{U: uid("Spare", "x")})
	for i, e := range l {
		l[i] = roomyEntity(e)
	}
	return l
}

// wholeSchema and wholeEntity have all that was handed in, the spare room too, in lists of their own.
func wholeSchema(s api.Schema) api.Schema {
	s.Kinds, s.Actions = slices.Clone(s.Kinds[:cap(s.Kinds)]), slices.Clone(s.Actions[:cap(s.Actions)])
	for i, k := range s.Kinds {
		s.Kinds[i].Parents, s.Kinds[i].Fields = slices.Clone(k.Parents[:cap(k.Parents)]), slices.Clone(k.Fields[:cap(k.Fields)])
	}
	for i, a := range s.Actions {
		s.Actions[i].Principals, s.Actions[i].Resources = slices.Clone(a.Principals[:cap(a.Principals)]), slices.Clone(a.Resources[:cap(a.Resources)])
	}
	return s
}

func wholeEntity(e api.Entity) api.Entity {
	e.Parents, e.Attrs = slices.Clone(e.Parents[:cap(e.Parents)]), slices.Clone(e.Attrs[:cap(e.Attrs)])
	for i, a := range e.Attrs {
		e.Attrs[i].V.L = slices.Clone(a.V.L[:cap(a.V.L)])
	}
	return e
}

func (h handed) dump() string {
	var l []api.Entity
	for _, e := range h.l[:cap(h.l)] {
		l = append(l, wholeEntity(e))
	}
	return dump(wholeSchema(h.s)) + dump(l) + dump(wholeEntity(h.e))
}

// ask makes each call, and tells all of what was answered.
func (h handed) ask() string {
	told := []any{fit.Entity(h.s, h.l, h.e), fit.All(h.s, h.l)}
	for _, kind := range allTypes() {
		for _, a := range h.e.Attrs {
			told = append(told, fit.Value(h.s, typeOf(kind), a.V))
		}
	}
	return dump(told)
}

// spoil writes into all of it.
func (h handed) spoil() {
	for _, e := range append(slices.Clone(h.l), h.e) {
		for _, a := range e.Attrs {
			spoil(a.V.L, truth(true))
		}
		spoil(e.Parents, uid("Spoilt", ""))
		spoil(e.Attrs, attr("spoilt", long(0)))
	}
	for _, k := range h.s.Kinds {
		spoil(k.Parents, "Spoilt")
		spoil(k.Fields, api.Field{Name: "spoilt"})
	}
	spoil(h.l, api.Entity{U: uid("Spoilt", "")})
	spoil(h.s.Kinds, api.Kind{Name: "Spoilt"})
}

func allHanded(t *testing.T) []handed {
	t.Helper()
	var all []handed
	for _, text := range []string{
		`A::"q"` + fineA,
		`A::"a" in B::"x"` + fineA,
		`A::"b" in A::"a", B::"x", B::"y"` + fineA,
		`A::"a" in A::"b", B::"x"` + fineA,
		`A::"q" in A::"a", A::"gone", C::"c"` + fineA,
		`B::"q" in A::"b", B::"y", C::"c"` + fineB,
		`B::"q" { spare: 1 };`,
		`C::"q" { u: [A::"a", A::"b", B::"x"] };`,
		`C::"c" { u: [A::"a", A::"b"] };`,
		`D::"q" in D::"d" { a: [false, true], b: ["b", "a"], c: [], d: D::"q" };`,
		`Spare::"x" {};`,
		`Action::"a" in A::"a" { b: true };`,
	} {
		e := entity(t, text)
		for _, l := range [][]api.Entity{nil, some(t), ents.Put(some(t), e)} {
			all = append(all, handed{roomySchema(usual(t)), roomyRow(l), roomyEntity(e)})
		}
	}
	// Attributes and kinds' fields that do not stand by their names, so that sorting them in their places would be seen.
	turned := handed{roomySchema(usual(t)), roomyRow(some(t)), roomyEntity(entity(t, `A::"q"`+fineA))}
	slices.Reverse(turned.e.Attrs)
	for _, k := range turned.s.Kinds {
		slices.Reverse(k.Fields)
	}
	for _, e := range turned.l {
		slices.Reverse(e.Attrs)
	}
	return append(all, turned, handed{})
}

// What is handed in is left alone, its spare room too.
func TestP2WhatIsHandedInIsLeftAlone(t *testing.T) {
	for _, h := range allHanded(t) {
		before := h.dump()
		h.ask()
		if h.dump() != before {
			t.Errorf("changed: %s; was %s", h.dump(), before)
		}
	}
}

// An entity may be handed in with lists that it shares with one of the row.
func TestP2SharedLists(t *testing.T) {
	for _, h := range allHanded(t) {
		before := h.dump()
		for _, e := range h.l {
			fit.Entity(h.s, h.l, e)
			fit.Entity(h.s, h.l[:0], e)
		}
		if h.dump() != before {
			t.Errorf("changed: %s; was %s", h.dump(), before)
		}
	}
}

// Nothing is kept: calls answer the same again, whatever became of what was handed in to other calls (P2, P3).
func TestP3TheSameAgain(t *testing.T) {
	var first []string
	for _, h := range allHanded(t) {
		first = append(first, h.ask())
		h.spoil()
	}
	for i, h := range allHanded(t) {
		for range 3 {
			if again := h.ask(); again != first[i] {
				t.Errorf("%d: %s; was %s", i, again, first[i])
			}
		}
	}
}

// What lies in the spare room is not asked.
func TestP2SpareRoomIsNotAsked(t *testing.T) {
	s, l := roomySchema(usual(t)), roomyRow(some(t))
	checkAll(t, s, l, api.OK)
	for _, e := range l {
		checkEntity(t, s, l, e, api.OK)
	}
	for text, want := range map[string]api.Errno{
		`Spare::"x" {};`:                   api.ErrName,
		`B::"q" { spare: 1 };`:             api.ErrName,
		`B::"q" in Spare::"x"` + fineB:     api.ErrType,
		`A::"a" in A::"b"` + fineA:         api.ErrCircle,
		`C::"q" { u: [A::"a", A::"b"] };`:  api.OK,
		`A::"q" in A::"b", B::"y"` + fineA: api.OK,
	} {
		checkEntity(t, s, l, roomyEntity(entity(t, text)), want)
	}
	// One that lies behind the end of the row is not in it.
	behind := roomy(l, entity(t, `A::"behind"`+fineA))
	checkEntity(t, s, behind, entity(t, `A::"q" in A::"behind"`+fineA), api.ErrGone)
	for _, x := range samples() {
		v := x.v
		v.L = roomy(v.L, ref("Spare", "x"))
		for _, kind := range allTypes() {
			checkValue(t, s, kind, v, fit.Value(s, typeOf(kind), x.v))
		}
	}
}
