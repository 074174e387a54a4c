package parse_test

import (
	"strings"
	"testing"

	"chancel/api"
	"chancel/parse"
)

func kinds(l ...api.Kind) api.Schema { return api.Schema{Kinds: l} }

func actions(l ...api.Action) api.Schema { return api.Schema{Actions: l} }

func TestP501Schemas(t *testing.T) {
	checkRead(t, parse.Schema, ``, api.Schema{})
	checkRead(t, parse.Schema, ` // nothing`, api.Schema{})
	checkRead(t, parse.Schema, `entity A {};`, kinds(api.Kind{Name: "A"}))
	checkRead(t, parse.Schema, `entity A in B {};`, kinds(api.Kind{Name: "A", Parents: []string{"B"}}))
	checkRead(t, parse.Schema, `entity A in C, B, A, C {};`, kinds(api.Kind{Name: "A", Parents: []string{"C", "B", "A", "C"}}))
	checkRead(t, parse.Schema, `action a: A -> B;`, actions(api.Action{Name: "a", Principals: []string{"A"}, Resources: []string{"B"}}))
	checkRead(t, parse.Schema, `action a:C,A,C->B,A,B;`, actions(api.Action{Name: "a", Principals: []string{"C", "A", "C"}, Resources: []string{"B", "A", "B"}}))
}

func TestP501Types(t *testing.T) {
	for s, want := range map[string]api.Type{
		`Bool`:            {Kind: api.TBool},
		`Long`:            {Kind: api.TLong},
		`String`:          {Kind: api.TStr},
		`A`:               {Kind: api.TUid, Name: "A"},
		`bool`:            {Kind: api.TUid, Name: "bool"},
		`Action`:          {Kind: api.TUid, Name: "Action"},
		`Set`:             {Kind: api.TUid, Name: "Set"},
		`set`:             {Kind: api.TUid, Name: "set"},
		`in`:              {Kind: api.TUid, Name: "in"},
		`Set<Bool>`:       {Kind: api.TSet, Of: api.TBool},
		`Set<Long>`:       {Kind: api.TSet, Of: api.TLong},
		`Set < String >`:  {Kind: api.TSet, Of: api.TStr},
		`Set<A>`:          {Kind: api.TSet, Of: api.TUid, Name: "A"},
		`Set<Set>`:        {Kind: api.TSet, Of: api.TUid, Name: "Set"},
		"Set//\n<in//\n>": {Kind: api.TSet, Of: api.TUid, Name: "in"},
	} {
		checkRead(t, parse.Schema, `entity E { f: `+s+` };`, kinds(api.Kind{Name: "E", Fields: []api.Field{{Name: "f", Type: want}}}))
		checkRead(t, parse.Schema, `entity E{g:`+s+`,f:`+s+`};`, kinds(api.Kind{Name: "E", Fields: []api.Field{{Name: "f", Type: want}, {Name: "g", Type: want}}}))
	}
	for _, bad := range []string{``, `1`, `"A"`, `"Long"`, `(Long)`, `[Long]`, `Set<`, `Set<>`, `Set<Long`, `Set>`, `Set<Long>>`, `Set<<Long>>`, `Set<Set<Long>>`, `Set<Set<A> >`, `Set[Long]`, `Set<1>`, `Set<"A">`, `Set<A, B>`, `Set<A B>`, `Set Long`, `Set::"a"`, `A<Long>`, `set<Long>`, `Long<Long>`, `A B`, `A::"b"`, `A.B`, `-Long`, `Long?`} {
		s := `entity E { f: ` + bad + ` };`
		if strings.Contains(bad, "?") {
			checkError(t, parse.Schema, s, api.ErrToken)
			continue
		}
		checkErrors(t, parse.Schema, api.ErrForm, s, `entity E { a: Long, f: `+bad+` };`, `entity E { f: `+bad+`, z: Long };`)
	}
}

// All stand by their names; of one name in the order of the text.
func TestP501SchemasInOrder(t *testing.T) {
	checkRead(t, parse.Schema, `
		entity b { y: Bool, x: Long, y: String, a: A, _: Bool, Z: Bool, x: Set<A> };
		action z: P -> R;
		entity B {};
		action a: P1 -> R;
		entity b in X {};
		entity aa {};
		entity a in Z, Y {};
		action a: P0 -> R;
		entity _ {};
		action A: P -> R, Q;
		entity b in W { a: Long };
		action a: P2 -> R;`,
		api.Schema{
			Kinds: []api.Kind{
				{Name: "B"},
				{Name: "_"},
				{Name: "a", Parents: []string{"Z", "Y"}},
				{Name: "aa"},
				{Name: "b", Fields: []api.Field{
					{Name: "Z", Type: api.Type{Kind: api.TBool}},
					{Name: "_", Type: api.Type{Kind: api.TBool}},
					{Name: "a", Type: api.Type{Kind: api.TUid, Name: "A"}},
					{Name: "x", Type: api.Type{Kind: api.TLong}},
					{Name: "x", Type: api.Type{Kind: api.TSet, Of: api.TUid, Name: "A"}},
					{Name: "y", Type: api.Type{Kind: api.TBool}},
					{Name: "y", Type: api.Type{Kind: api.TStr}},
				}},
				{Name: "b", Parents: []string{"X"}},
				{Name: "b", Parents: []string{"W"}, Fields: []api.Field{{Name: "a", Type: api.Type{Kind: api.TLong}}}},
			},
			Actions: []api.Action{
				{Name: "A", Principals: []string{"P"}, Resources: []string{"R", "Q"}},
				{Name: "a", Principals: []string{"P1"}, Resources: []string{"R"}},
				{Name: "a", Principals: []string{"P0"}, Resources: []string{"R"}},
				{Name: "a", Principals: []string{"P2"}, Resources: []string{"R"}},
				{Name: "z", Principals: []string{"P"}, Resources: []string{"R"}},
			},
		})
}

// So many of one name that a sorting that does not keep their order would show it: twenty of each, all odd ones ahead of all even ones.
func TestP501SchemasOfOneNameInTheOrderOfTheText(t *testing.T) {
	var kindTexts, actTexts, fieldTexts []string
	var kind [2][]api.Kind
	var act [2][]api.Action
	var field [2][]api.Field
	for i := range 20 {
		name, other := []string{"n", "m"}[i%2], string(rune('a'+i*7%20))
		kindTexts = append(kindTexts, "entity "+name+" in "+other+"{};")
		actTexts = append(actTexts, "action "+name+":"+other+"->r;")
		fieldTexts = append(fieldTexts, name+":"+other)
		kind[i%2] = append(kind[i%2], api.Kind{Name: name, Parents: []string{other}})
		act[i%2] = append(act[i%2], api.Action{Name: name, Principals: []string{other}, Resources: []string{"r"}})
		field[i%2] = append(field[i%2], api.Field{Name: name, Type: api.Type{Kind: api.TUid, Name: other}})
	}
	checkRead(t, parse.Schema, strings.Join(kindTexts, ""), kinds(append(kind[1], kind[0]...)...))
	checkRead(t, parse.Schema, strings.Join(actTexts, ""), actions(append(act[1], act[0]...)...))
	checkRead(t, parse.Schema, "entity k{"+strings.Join(fieldTexts, ",")+"};", kinds(api.Kind{Name: "k", Fields: append(field[1], field[0]...)}))
}

func TestP501WordsInSchemas(t *testing.T) {
	for _, w := range words {
		checkRead(t, parse.Schema, `entity `+w+` in `+w+`, `+w+` { `+w+`: `+w+`x };`, kinds(api.Kind{Name: w, Parents: []string{w, w}, Fields: []api.Field{{Name: w, Type: api.Type{Kind: api.TUid, Name: w + "x"}}}}))
		checkRead(t, parse.Schema, `entity `+w+` {};`, kinds(api.Kind{Name: w}))
		checkRead(t, parse.Schema, `action `+w+`: `+w+` -> `+w+`;`, actions(api.Action{Name: w, Principals: []string{w}, Resources: []string{w}}))
		if w != "entity" && w != "action" {
			checkErrors(t, parse.Schema, api.ErrForm, w, w+` A {};`, w+` a: A -> B;`)
		}
	}
}

func TestP501SchemasThatAreNone(t *testing.T) {
	checkErrors(t, parse.Schema, api.ErrForm, `entity`, `entity;`, `entity {};`, `entity A;`, `entity A {}`, `entity A {};;`, `;`, `entity A in {};`, `entity A in B, {};`, `entity A in B C {};`, `entity A in in {} {};`, `entity A, B {};`, `entity A {,};`, `entity A {f};`, `entity A {f:};`, `entity A {:Long};`, `entity A {f: Long,};`, `entity A {,f: Long};`, `entity A {f: Long g: Long};`, `entity A {f: Long; g: Long};`, `entity A {f Long};`, `entity A {f:: Long};`, `entity A {"f": Long};`, `entity A [];`, `entity A (f: Long);`, `entity in in {};`, `Entity A {};`, `entity 1 {};`, `entity "A" {};`, `entity A "in" B {};`, `{};`, `A {};`)
	checkErrors(t, parse.Schema, api.ErrForm, `action`, `action;`, `action a;`, `action a:;`, `action a: A;`, `action a: A ->;`, `action a: -> A;`, `action a: ->;`, `action a -> A;`, `action a A -> B;`, `action : A -> B;`, `action a: A, -> B;`, `action a: A -> B,;`, `action a: A - > B;`, `action a: A > B;`, `action a: A -> B -> C;`, `action a: A B -> C;`, `action a: A -> B`, `action a: A -> B {};`, `action a {};`, `action a, b: A -> B;`, `action a in b: A -> B;`, `Action a: A -> B;`)
	checkRead(t, parse.Schema, `entity in in in {};`, kinds(api.Kind{Name: "in", Parents: []string{"in"}}))
}

func TestP501SchemasWithListsOfTwenty(t *testing.T) {
	for n := 1; n <= 24; n++ {
		want := api.OK
		if n > 20 {
			want = api.ErrMany
		}
		for _, s := range []string{
			times(`entity A{};`, n, ``),
			times(`action a:A->A;`, n, ``),
			`entity A in ` + times(`B`, n, `,`) + ` {};`,
			`entity A {` + times(`f:Long`, n, `,`) + `};`,
			`action a: ` + times(`A`, n, `,`) + ` -> A;`,
			`action a: A -> ` + times(`A`, n, `,`) + `;`,
			`entity Z {}; entity A in ` + times(`B`, n, `,`) + ` {};`,
			`entity A {f: Long}; entity B {` + times(`f:Long`, n, `,`) + `};`,
			`action a: A -> B; action a: ` + times(`A`, n, `,`) + ` -> A;`,
			`action a: A -> B; action a: A -> ` + times(`A`, n, `,`) + `;`,
		} {
			checkError(t, parse.Schema, s, want)
			checkErrors(t, parse.Schema, api.ErrForm, s+`;`, `x `+s, strings.TrimSuffix(s, `;`), s+`entity A`)
		}
	}
	// Kinds are one list, actions another.
	checkError(t, parse.Schema, times(`entity A{};`, 12, ``)+times(`action a:A->A;`, 12, ``), api.OK)
	checkError(t, parse.Schema, times(`entity A in B{};`, 20, ``)+`entity A{};`, api.ErrMany)
}
