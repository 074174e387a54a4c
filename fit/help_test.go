package fit_test

import (
	"fmt"
	"strings"
	"testing"

	"chancel/api"
	"chancel/ents"
	"chancel/fit"
	"chancel/parse"
	"chancel/schema"
	"chancel/show"
	"chancel/value"
)

// source has kinds with as many fields as there may be, with one, and with none. An action has the name of a kind; of B's parents one is named twice.
const source = `
entity A in A, B { b: Bool, l: Long, s: String, t: Set<Long>, u: B };
entity B in B, A, C, B {};
entity C { u: Set<A> };
entity D in D { a: Set<Bool>, b: Set<String>, c: Set<D>, d: D };
action A: A -> B;
action a: A -> B;
`

// fine are attributes that fit the kinds of source.
const (
	fineA = ` { b: true, l: 1, s: "x", t: [1, 2], u: B::"gone" };`
	fineB = ` {};`
	fineC = ` { u: [] };`
	fineD = ` { a: [], b: ["a"], c: [D::"gone"], d: D::"gone" };`
)

// made is the schema of a text, which must be one that may be.
func made(t testing.TB, text string) api.Schema {
	t.Helper()
	s, err := parse.Schema(text)
	if err != api.OK {
		t.Fatalf("%s: %v", text, err)
	}
	if err := schema.Check(s); err != api.OK {
		t.Fatalf("%s: Check of it: %v", text, err)
	}
	return s
}

func usual(t testing.TB) api.Schema {
	t.Helper()
	return made(t, source)
}

// entity is the one of a text, which may stand alone in a list.
func entity(t testing.TB, text string) api.Entity {
	t.Helper()
	e, err := parse.Entity(text)
	if err != api.OK {
		t.Fatalf("%s: %v", text, err)
	}
	if err := ents.Check([]api.Entity{e}); err != api.OK {
		t.Fatalf("%s: Check of it: %v", text, err)
	}
	return e
}

// row is the entities of texts, at their places.
func row(t testing.TB, texts ...string) []api.Entity {
	t.Helper()
	var l []api.Entity
	for _, text := range texts {
		l = ents.Put(l, entity(t, text))
	}
	if err := ents.Check(l); err != api.OK || len(l) != len(texts) {
		t.Fatalf("%q: %d, %v", texts, len(l), err)
	}
	return l
}

func uid(kind, id string) api.Uid { return api.Uid{Type: kind, Id: id} }

func truth(b bool) api.Value { return api.Value{Kind: api.VBool, B: b} }

func long(n int64) api.Value { return api.Value{Kind: api.VLong, N: n} }

func str(s string) api.Value { return api.Value{Kind: api.VStr, S: s} }

func ref(kind, id string) api.Value { return api.Value{Kind: api.VUid, U: uid(kind, id)} }

// set has elements that rise already.
func set(l ...api.Value) api.Value { return api.Value{Kind: api.VSet, L: l} }

func attr(name string, v api.Value) api.Attr { return api.Attr{Name: name, V: v} }

// typeOf is the type of a word: Bool, Long, String, or another name of entities; with Set and a space ahead a set of it.
func typeOf(text string) api.Type {
	base, isSet := strings.CutPrefix(text, "Set ")
	one := api.Type{Kind: api.TUid, Name: base}
	switch base {
	case "Bool":
		one = api.Type{Kind: api.TBool}
	case "Long":
		one = api.Type{Kind: api.TLong}
	case "String":
		one = api.Type{Kind: api.TStr}
	}
	if isSet {
		return api.Type{Kind: api.TSet, Of: one.Kind, Name: one.Name}
	}
	return one
}

func checkValue(t *testing.T, s api.Schema, kind string, v api.Value, want bool) {
	t.Helper()
	if got := fit.Value(s, typeOf(kind), v); got != want {
		t.Errorf("Value of %s, %s: %v", kind, value.Text(v), got)
	}
}

// texts writes a row, for what a test tells.
func texts(l []api.Entity) string {
	var all []string
	for _, e := range l {
		all = append(all, show.Entity(e))
	}
	return strings.Join(all, " ")
}

func checkEntity(t *testing.T, s api.Schema, l []api.Entity, e api.Entity, want api.Errno) {
	t.Helper()
	if got := fit.Entity(s, l, e); got != want {
		t.Errorf("Entity of %s: %v; want %v; among %s", show.Entity(e), got, want, texts(l))
	}
}

func checkAll(t *testing.T, s api.Schema, l []api.Entity, want api.Errno) {
	t.Helper()
	if got := fit.All(s, l); got != want {
		t.Errorf("All: %v; want %v; of %s", got, want, texts(l))
	}
}

// dump tells all fields of whatever there is; no list and an empty one are the same.
func dump(x any) string {
	return strings.ReplaceAll(fmt.Sprintf("%#v", x), "(nil)", "{}")
}
