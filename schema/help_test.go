package schema_test

import (
	"fmt"
	"slices"
	"strings"
	"testing"

	"chancel/api"
	"chancel/schema"
)

// kind has the parents of a text, parted by spaces.
func kind(name, parents string, fields ...api.Field) api.Kind {
	return api.Kind{Name: name, Parents: strings.Fields(parents), Fields: fields}
}

func field(name string, t api.Type) api.Field { return api.Field{Name: name, Type: t} }

// action has principals and resources of texts, parted by spaces.
func action(name, principals, resources string) api.Action {
	return api.Action{Name: name, Principals: strings.Fields(principals), Resources: strings.Fields(resources)}
}

func plain(kind int) api.Type { return api.Type{Kind: kind} }

func ref(name string) api.Type { return api.Type{Kind: api.TUid, Name: name} }

func set(of int) api.Type { return api.Type{Kind: api.TSet, Of: of} }

func setOfRefs(name string) api.Type { return api.Type{Kind: api.TSet, Of: api.TUid, Name: name} }

func uid(kind, id string) api.Uid { return api.Uid{Type: kind, Id: id} }

// kinds are some without parents and fields, by a text's names.
func kinds(names string) []api.Kind {
	var l []api.Kind
	for _, name := range strings.Fields(names) {
		l = append(l, api.Kind{Name: name})
	}
	return l
}

// actions are some by and upon A, by a text's names.
func actions(names string) []api.Action {
	var l []api.Action
	for _, name := range strings.Fields(names) {
		l = append(l, action(name, "A", "A"))
	}
	return l
}

// fields are some of numbers, by a text's names.
func fields(names string) []api.Field {
	var l []api.Field
	for _, name := range strings.Fields(names) {
		l = append(l, field(name, plain(api.TLong)))
	}
	return l
}

// full is a schema with something in each place; its first kind is its own parent, and its last one's, too.
func full() api.Schema {
	return api.Schema{
		Kinds: []api.Kind{
			kind("B", "B F", field("a", plain(api.TBool)), field("b", ref("F")), field("c", setOfRefs("B"))),
			kind("D", "B F B", field("f", plain(api.TStr)), field("g", set(api.TLong))),
			kind("F", "B B", field("k", plain(api.TLong)), field("l", ref("F"))),
		},
		Actions: []api.Action{action("m", "B D", "F"), action("n", "F B", "B F"), action("o", "D", "D D")},
	}
}

// odd is a schema that Check refuses in every way, and more of everything than there may be.
func odd() api.Schema {
	k := kind("1", "X 1 X Action B C", field("", api.Type{Kind: 9, Of: 9, Name: "X"}), field("a", api.Type{Kind: -1, Of: api.TUid, Name: "B"}), field("a", set(api.TSet)),
		field("\xff", api.Type{Kind: api.TLong, Of: api.TLong, Name: "\xff"}), field("", ref("")), field("z", setOfRefs("Action")), field("b", api.Type{}))
	a := action("a b", "X X 1 Action B C D", "X X 1 Action B C D")
	return api.Schema{
		Kinds:   []api.Kind{k, kind("B", ""), k, kind("Action", "Bool"), kind("", ""), kind("Set", "Set"), kind("B", "B"), k},
		Actions: []api.Action{a, action("b", "", ""), a, action("", "B", ""), action("b", "B", "B"), a, action("a", "", "B"), {}},
	}
}

// dump tells all fields of whatever there is; no list and an empty one are the same.
func dump(x any) string {
	return strings.ReplaceAll(fmt.Sprintf("%#v", x), "(nil)", "{}")
}

// copied is one that shares nothing.
func copied(s api.Schema) api.Schema {
	s.Kinds, s.Actions = slices.Clone(s.Kinds), slices.Clone(s.Actions)
	for i, k := range s.Kinds {
		s.Kinds[i].Parents, s.Kinds[i].Fields = slices.Clone(k.Parents), slices.Clone(k.Fields)
	}
	for i, a := range s.Actions {
		s.Actions[i].Principals, s.Actions[i].Resources = slices.Clone(a.Principals), slices.Clone(a.Resources)
	}
	return s
}

func check(t *testing.T, s api.Schema, want api.Errno) {
	t.Helper()
	if got := schema.Check(s); got != want {
		t.Errorf("Check: %v; want %v; %s", got, want, dump(s))
	}
}
