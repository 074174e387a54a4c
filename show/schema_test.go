package show_test

import (
	"testing"

	"chancel/api"
)

// fieldTypes are all, and what is written of each.
var fieldTypes = []struct {
	t    api.Type
	want string
}{
	{api.Type{Kind: api.TBool}, "Bool"},
	{api.Type{Kind: api.TLong}, "Long"},
	{api.Type{Kind: api.TStr}, "String"},
	{api.Type{Kind: api.TUid, Name: "User"}, "User"},
	{api.Type{Kind: api.TUid, Name: "Set"}, "Set"},
	{api.Type{Kind: api.TUid, Name: "entity"}, "entity"},
	{api.Type{Kind: api.TSet, Of: api.TBool}, "Set<Bool>"},
	{api.Type{Kind: api.TSet, Of: api.TLong}, "Set<Long>"},
	{api.Type{Kind: api.TSet, Of: api.TStr}, "Set<String>"},
	{api.Type{Kind: api.TSet, Of: api.TUid, Name: "User"}, "Set<User>"},
	{api.Type{Kind: api.TSet, Of: api.TUid, Name: "Set"}, "Set<Set>"},
}

func TestP602Types(t *testing.T) {
	var all []api.Field
	texts := ""
	for i, x := range fieldTypes {
		name := string(rune('a' + i))
		schemas.check(t, api.Schema{Kinds: []api.Kind{{Name: "K", Fields: []api.Field{{Name: "f", Type: x.t}}}}}, "entity K { f: "+x.want+" };")
		all = append(all, api.Field{Name: name, Type: x.t})
		if i > 0 {
			texts += ","
		}
		texts += " " + name + ": " + x.want
	}
	schemas.check(t, api.Schema{Kinds: []api.Kind{{Name: "K", Fields: all}}}, "entity K {"+texts+" };")
}

func TestP602Kinds(t *testing.T) {
	long, str := api.Type{Kind: api.TLong}, api.Type{Kind: api.TStr}
	schemas.check(t, api.Schema{}, "")
	schemas.check(t, api.Schema{Kinds: []api.Kind{}, Actions: []api.Action{}}, "")
	schemas.check(t, api.Schema{Kinds: []api.Kind{{Name: "A"}}}, "entity A {};")
	schemas.check(t, api.Schema{Kinds: []api.Kind{{Name: "A", Parents: []string{}, Fields: []api.Field{}}}}, "entity A {};")
	schemas.check(t, api.Schema{Kinds: []api.Kind{{Name: "A", Parents: []string{"B"}}}}, "entity A in B {};")
	// Parents stand as they are handed in.
	schemas.check(t, api.Schema{Kinds: []api.Kind{{Name: "A", Parents: []string{"C", "A", "C"}}}}, "entity A in C, A, C {};")
	schemas.check(t, api.Schema{Kinds: []api.Kind{{Name: "A", Fields: []api.Field{{Name: "x", Type: long}}}}}, "entity A { x: Long };")
	schemas.check(t, api.Schema{Kinds: []api.Kind{{Name: "A", Parents: []string{"B", "in"}, Fields: []api.Field{{Name: "x", Type: long}, {Name: "x", Type: str}, {Name: "y", Type: long}}}}}, "entity A in B, in { x: Long, x: String, y: Long };")
	schemas.check(t, api.Schema{Kinds: []api.Kind{{Name: "A"}, {Name: "A", Parents: []string{"B"}}, {Name: "abcdefghijkl"}}}, "entity A {};\nentity A in B {};\nentity abcdefghijkl {};")
}

func TestP602Actions(t *testing.T) {
	schemas.check(t, api.Schema{Actions: []api.Action{{Name: "a", Principals: []string{"A"}, Resources: []string{"B"}}}}, "action a: A -> B;")
	schemas.check(t, api.Schema{Actions: []api.Action{{Name: "a", Principals: []string{"B", "A", "B"}, Resources: []string{"D", "C"}}}}, "action a: B, A, B -> D, C;")
	schemas.check(t, api.Schema{Actions: []api.Action{{Name: "a", Principals: []string{"A"}, Resources: []string{"B"}}, {Name: "b", Principals: []string{"C"}, Resources: []string{"D", "E"}}}}, "action a: A -> B;\naction b: C -> D, E;")
	schemas.check(t, api.Schema{Kinds: []api.Kind{{Name: "z"}}, Actions: []api.Action{{Name: "a", Principals: []string{"z"}, Resources: []string{"z"}}}}, "entity z {};\naction a: z -> z;")
	// Without what the rules ask for it could not be read.
	schemas.written(t, api.Schema{Actions: []api.Action{{Name: "a"}}}, "action a:  -> ;")
}

// What is handed in in no order is written as it stands.
func TestP602NothingIsSorted(t *testing.T) {
	long := api.Type{Kind: api.TLong}
	schemas.written(t, api.Schema{
		Kinds:   []api.Kind{{Name: "B", Fields: []api.Field{{Name: "b", Type: long}, {Name: "a", Type: long}}}, {Name: "A"}},
		Actions: []api.Action{{Name: "d", Principals: []string{"A"}, Resources: []string{"B"}}, {Name: "c", Principals: []string{"A"}, Resources: []string{"B"}}},
	}, "entity B { b: Long, a: Long };\nentity A {};\naction d: A -> B;\naction c: A -> B;")
	entities.written(t, api.Entity{U: id("A", ""), Parents: []api.Uid{id("C", ""), id("B", ""), id("C", "")}, Attrs: []api.Attr{{Name: "b", V: vLong(1)}, {Name: "a", V: vLong(2)}}}, `A::"" in C::"", B::"", C::"" { b: 1, a: 2 };`)
}

func TestP603SchemasOfTexts(t *testing.T) {
	schemas.from(t, "", "")
	schemas.from(t, " // none", "")
	schemas.from(t, "action z:B,A->A;entity B in A,B,A{y:Set<String>,x:B,y:Long};entity A{};action a:A->B,B;entity A{s:Set,b:Bool,t:Set<Set>};", "entity A {};\nentity A { b: Bool, s: Set, t: Set<Set> };\nentity B in A, B, A { x: B, y: Set<String>, y: Long };\naction a: A -> B, B;\naction z: B, A -> A;")
	schemas.from(t, "entity entity in in{in:in};action action:action->entity;", "entity entity in in { in: in };\naction action: action -> entity;")
}
