package schema_test

import (
	"slices"
	"testing"

	"chancel/api"
	"chancel/schema"
)

// spoil writes into all that a list has, its spare room too.
func spoil[T any](l []T, with T) {
	l = l[:cap(l)]
	for i := range l {
		l[i] = with
	}
}

// roomy is a list with the same elements, and room behind them that is written full.
func roomy[T any](l []T, with T) []T {
	all := append(append(make([]T, 0, len(l)+2), l...), with, with)
	return all[:len(l)]
}

// roomySchema has room behind each of its lists.
func roomySchema(s api.Schema) api.Schema {
	s.Kinds, s.Actions = roomy(s.Kinds, kind("Spare", "Spare")), roomy(s.Actions, action("spare", "Spare", "Spare"))
	for i, k := range s.Kinds {
		s.Kinds[i].Parents, s.Kinds[i].Fields = roomy(k.Parents, "Spare"), roomy(k.Fields, field("spare", ref("Spare")))
	}
	for i, a := range s.Actions {
		s.Actions[i].Principals, s.Actions[i].Resources = roomy(a.Principals, "Spare"), roomy(a.Resources, "Spare")
	}
	return s
}

// whole tells all that a schema's lists have, their spare room too.
func whole(s api.Schema) string {
	s.Kinds, s.Actions = slices.Clone(s.Kinds[:cap(s.Kinds)]), slices.Clone(s.Actions[:cap(s.Actions)])
	for i, k := range s.Kinds {
		s.Kinds[i].Parents, s.Kinds[i].Fields = k.Parents[:cap(k.Parents)], k.Fields[:cap(k.Fields)]
	}
	for i, a := range s.Actions {
		s.Actions[i].Principals, s.Actions[i].Resources = a.Principals[:cap(a.Principals)], a.Resources[:cap(a.Resources)]
	}
	return dump(s)
}

func spoilKind(k api.Kind) {
	spoil(k.Parents, "Spoilt")
	spoil(k.Fields, field("spoilt", ref("Spoilt")))
}

func spoilAction(a api.Action) {
	spoil(a.Principals, "Spoilt")
	spoil(a.Resources, "Spoilt")
}

func spoilSchema(s api.Schema) {
	for _, k := range s.Kinds[:cap(s.Kinds)] {
		spoilKind(k)
	}
	for _, a := range s.Actions[:cap(s.Actions)] {
		spoilAction(a)
	}
	spoil(s.Kinds, kind("Spoilt", "Spoilt"))
	spoil(s.Actions, action("spoilt", "Spoilt", "Spoilt"))
}

// askAll makes each call, with the names of all that is there and of what is not, and hands over whatever was answered.
func askAll(s api.Schema, kinds func(api.Kind), actions func(api.Action)) {
	schema.Check(s)
	schema.Same(s, s)
	schema.Same(s, full())
	for _, k := range append(slices.Clone(s.Kinds), api.Kind{Name: "X"}) {
		got, _ := schema.Kind(s, k.Name)
		kinds(got)
		for _, f := range append(slices.Clone(k.Fields), api.Field{Name: "x"}) {
			schema.Field(k, f.Name)
		}
		for _, a := range append(slices.Clone(s.Actions), api.Action{Name: "X"}) {
			schema.Fits(s, api.Request{Principal: uid(k.Name, ""), Action: uid("Action", a.Name), Resource: uid(k.Name, "")})
			schema.Fits(s, api.Request{Principal: uid(k.Name, ""), Action: uid(k.Name, a.Name), Resource: uid("", "\xff")})
		}
	}
	for _, a := range append(slices.Clone(s.Actions), api.Action{Name: "X"}) {
		got, _ := schema.Action(s, a.Name)
		actions(got)
	}
}

// What is handed in is left alone, its spare room too, also where the answer is written into.
func TestP2SchemasAreLeftAlone(t *testing.T) {
	for _, s := range []api.Schema{full(), leaning(), parted(), odd(), {}} {
		s = roomySchema(s)
		before := whole(s)
		askAll(s, func(api.Kind) {}, func(api.Action) {})
		if whole(s) != before {
			t.Errorf("changed: %s; was %s", whole(s), before)
		}
		askAll(s, spoilKind, spoilAction)
		if whole(s) != before {
			t.Errorf("shared with the answer: %s; was %s", whole(s), before)
		}
	}
}

// An answer keeps as it is, whatever becomes of what was handed in.
func TestP2SchemasAreNotKept(t *testing.T) {
	for _, s := range []api.Schema{full(), leaning(), parted(), odd()} {
		s = roomySchema(s)
		var all []any
		askAll(s, func(k api.Kind) { all = append(all, k) }, func(a api.Action) { all = append(all, a) })
		before := dump(all)
		spoilSchema(s)
		if dump(all) != before {
			t.Errorf("kept: %s; was %s", dump(all), before)
		}
	}
}

// The lists of one answer share none, though those did that were handed in; nor do those of two answers.
func TestP2NoTwoListsShare(t *testing.T) {
	types, rows := []string{"A", "A"}, fields("a b")
	s := api.Schema{
		Kinds:   []api.Kind{{Name: "A", Parents: types, Fields: rows}, {Name: "B", Parents: types, Fields: rows}},
		Actions: []api.Action{{Name: "a", Principals: types, Resources: types}, {Name: "b", Principals: types[:1], Resources: types[1:]}},
	}
	check(t, s, api.OK)
	for _, name := range []string{"a", "b"} {
		a, _ := schema.Action(s, name)
		spoil(a.Principals, "Spoilt")
		if slices.Contains(a.Resources[:cap(a.Resources)], "Spoilt") {
			t.Errorf("%s: shared", name)
		}
	}
	k, _ := schema.Kind(s, "A")
	again, _ := schema.Kind(s, "A")
	spoilKind(k)
	if dump(again) != dump(s.Kinds[0]) {
		t.Errorf("two answers share: %s", dump(again))
	}
}

// What lies in the spare room is not asked.
func TestP2SpareRoomIsNotAsked(t *testing.T) {
	s := roomySchema(full())
	check(t, s, api.OK)
	if !schema.Same(s, full()) || !schema.Same(full(), s) {
		t.Error("not the same")
	}
	if _, is := schema.Kind(s, "Spare"); is {
		t.Error("Kind")
	}
	if _, is := schema.Action(s, "spare"); is {
		t.Error("Action")
	}
	if _, is := schema.Field(s.Kinds[0], "spare"); is {
		t.Error("Field")
	}
	checkFits(t, s, uid("Spare", ""), uid("Action", "m"), uid("F", ""), api.ErrType)
	checkFits(t, s, uid("B", ""), uid("Action", "spare"), uid("F", ""), api.ErrName)
	none := roomySchema(api.Schema{Kinds: kinds("A"), Actions: []api.Action{{Name: "a"}}})
	check(t, none, api.ErrForm)
}
