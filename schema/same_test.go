package schema_test

import (
	"fmt"
	"slices"
	"testing"

	"chancel/api"
	"chancel/schema"
)

// change makes a schema another one, in one thing alone.
type change struct {
	what string
	make func(s *api.Schema)
}

// changesOf are what can become of a list: each element another one, one more at each place, one less, two that stand next to each other swapped.
func changesOf[T any](what string, list func(s *api.Schema) *[]T, count int, other func(T) T) []change {
	var l []change
	add := func(how string, i int, f func(l []T) []T) {
		l = append(l, change{fmt.Sprintf("%s %s %d", what, how, i), func(s *api.Schema) { *list(s) = f(*list(s)) }})
	}
	var zero T
	for i := range count {
		add("other", i, func(l []T) []T { l[i] = other(l[i]); return l })
		add("less", i, func(l []T) []T { return slices.Delete(l, i, i+1) })
		add("doubled", i, func(l []T) []T { return slices.Insert(l, i, l[i]) })
	}
	for i := range count + 1 {
		add("more", i, func(l []T) []T { return slices.Insert(l, i, zero) })
	}
	for i := range max(count-1, 0) {
		add("swapped", i, func(l []T) []T { l[i], l[i+1] = l[i+1], l[i]; return l })
	}
	add("none", 0, func(l []T) []T { return nil })
	add("front", 0, func(l []T) []T { return l[:1] })
	return l
}

func otherName(s string) string { return s + "x" }

// changes are all those that a schema has places for.
func changes(s api.Schema) []change {
	l := changesOf("kinds", func(s *api.Schema) *[]api.Kind { return &s.Kinds }, len(s.Kinds), func(k api.Kind) api.Kind { k.Name += "x"; return k })
	l = append(l, changesOf("actions", func(s *api.Schema) *[]api.Action { return &s.Actions }, len(s.Actions), func(a api.Action) api.Action { a.Name += "x"; return a })...)
	for i, k := range s.Kinds {
		l = append(l, changesOf("parents", func(s *api.Schema) *[]string { return &s.Kinds[i].Parents }, len(k.Parents), otherName)...)
		for _, other := range []func(f api.Field) api.Field{
			func(f api.Field) api.Field { f.Name += "x"; return f },
			func(f api.Field) api.Field { f.Type.Kind++; return f },
			func(f api.Field) api.Field { f.Type.Of++; return f },
			func(f api.Field) api.Field { f.Type.Name += "x"; return f },
		} {
			l = append(l, changesOf("fields", func(s *api.Schema) *[]api.Field { return &s.Kinds[i].Fields }, len(k.Fields), other)...)
		}
	}
	for i, a := range s.Actions {
		l = append(l, changesOf("principals", func(s *api.Schema) *[]string { return &s.Actions[i].Principals }, len(a.Principals), otherName)...)
		l = append(l, changesOf("resources", func(s *api.Schema) *[]string { return &s.Actions[i].Resources }, len(a.Resources), otherName)...)
	}
	return l
}

// parted has no two that are alike next to each other, and two at least in each list, so that each change makes another schema.
func parted() api.Schema {
	return api.Schema{
		Kinds: []api.Kind{
			kind("B", "B F D", field("a", plain(api.TBool)), field("b", ref("F")), field("c", setOfRefs("B"))),
			kind("D", "F B F", field("f", plain(api.TStr)), field("g", set(api.TLong))),
			kind("F", "B D", field("k", plain(api.TLong)), field("l", ref("F"))),
		},
		Actions: []api.Action{action("m", "B D", "F B"), action("n", "F B F", "B F"), action("o", "D F", "D B D")},
	}
}

func TestP1002SameOfWhatPartsInOneThing(t *testing.T) {
	l := changes(parted())
	if len(l) < 200 {
		t.Fatalf("%d changes", len(l))
	}
	for _, c := range l {
		other := parted()
		c.make(&other)
		if schema.Same(parted(), other) || schema.Same(other, parted()) {
			t.Errorf("%s: the same", c.what)
		}
		if again := copied(other); !schema.Same(other, again) || !schema.Same(again, other) {
			t.Errorf("%s: another than itself", c.what)
		}
	}
}

func TestP1002SameOfTheSame(t *testing.T) {
	for _, s := range []api.Schema{{}, full(), leaning(), parted(), odd(), {Kinds: full().Kinds}, {Actions: full().Actions}} {
		if !schema.Same(s, s) || !schema.Same(s, copied(s)) || !schema.Same(copied(s), s) {
			t.Errorf("another than itself: %s", dump(s))
		}
	}
}

func TestP1002SameOfEachTwo(t *testing.T) {
	all := []api.Schema{{}, full(), leaning(), parted(), odd(), {Kinds: full().Kinds}, {Actions: full().Actions}, {Kinds: []api.Kind{{}}}, {Actions: []api.Action{{}}}, {Kinds: []api.Kind{{}, {}}}, {Kinds: []api.Kind{{}}, Actions: []api.Action{{}}}}
	for i, a := range all {
		for k, b := range all {
			if schema.Same(a, b) != (i == k) {
				t.Errorf("%d, %d: %v", i, k, i != k)
			}
		}
	}
}

// What moves from one list into the next is not the same, though all names stand in one order.
func TestP1002SameOfWhatMoved(t *testing.T) {
	all := []api.Schema{
		{Kinds: []api.Kind{kind("A", "B")}},
		{Kinds: []api.Kind{kind("A", ""), kind("B", "")}},
		{Kinds: []api.Kind{kind("A", "", field("B", api.Type{}))}},
		{Kinds: []api.Kind{kind("A", "", field("", api.Type{Name: "B"}))}},
		{Kinds: kinds("A"), Actions: []api.Action{{Name: "B"}}},
		{Actions: []api.Action{{Name: "A"}, {Name: "B"}}},
		{Actions: []api.Action{action("A", "B", "")}},
		{Actions: []api.Action{action("A", "", "B")}},
		{Actions: []api.Action{{Name: "AB"}}},
		{Kinds: kinds("AB")},
	}
	for i, a := range all {
		for k, b := range all {
			if schema.Same(a, b) != (i == k) {
				t.Errorf("%d, %d: %v", i, k, i != k)
			}
		}
	}
}

// No list and an empty one are the same in each place that a schema has.
func TestP2SameOfNoLists(t *testing.T) {
	none := api.Schema{Kinds: []api.Kind{{Name: "A"}, {Name: "B"}}, Actions: []api.Action{{Name: "a"}, {Name: "b"}}}
	for i, f := range []func(s *api.Schema){
		func(s *api.Schema) { s.Kinds[0].Parents = []string{} },
		func(s *api.Schema) { s.Kinds[1].Parents = make([]string, 0, 3) },
		func(s *api.Schema) { s.Kinds[0].Fields = []api.Field{} },
		func(s *api.Schema) { s.Kinds[1].Fields = make([]api.Field, 0, 3) },
		func(s *api.Schema) { s.Actions[0].Principals = []string{} },
		func(s *api.Schema) { s.Actions[1].Principals = make([]string, 0, 3) },
		func(s *api.Schema) { s.Actions[0].Resources = []string{} },
		func(s *api.Schema) { s.Actions[1].Resources = make([]string, 0, 3) },
	} {
		s := copied(none)
		f(&s)
		if !schema.Same(s, none) || !schema.Same(none, s) {
			t.Errorf("%d: not the same", i)
		}
		check(t, s, schema.Check(none))
	}
	for _, s := range []api.Schema{{Kinds: []api.Kind{}}, {Actions: []api.Action{}}, {Kinds: make([]api.Kind, 0, 2), Actions: make([]api.Action, 0, 2)}} {
		if !schema.Same(s, api.Schema{}) || !schema.Same(api.Schema{}, s) {
			t.Errorf("%s: not the same", dump(s))
		}
		check(t, s, api.OK)
	}
}
