package store_test

import (
	"strings"
	"testing"

	"chancel/api"
	"chancel/store"
)

// Each error of a schema's own, on an empty store and on one that keeps things.
func TestP1502SchemasThatAreRefused(t *testing.T) {
	long := strings.Repeat(" ", api.MaxText+1)
	for _, x := range []struct {
		name, text string
		want       api.Errno
	}{
		{"s", source, api.ErrArg},
		{"s", "", api.ErrArg},
		{" ", source, api.ErrArg},
		{"\xff", "@", api.ErrArg},
		{"", source + long, api.ErrLong},
		{"", "\xff", api.ErrRune},
		{"", `entity A {}; @`, api.ErrToken},
		{"", `entity abcdefghijklm {};`, api.ErrLong},
		{"", strings.Repeat(";", 201), api.ErrMany},
		{"", `entity A {}`, api.ErrForm},
		{"", `entity A { n: Set<Set<Long>> };`, api.ErrForm},
		{"", permit, api.ErrForm},
		{"", `A::"a" {};`, api.ErrForm},
		{"", strings.Repeat(`entity A {};`, 21), api.ErrMany},
		{"", `entity A {}; entity B {}; entity C {}; entity D {}; entity E {}; entity F {}; entity G {};`, api.ErrMany},
		{"", `entity A {}; action a: A -> A; action b: A -> A; action c: A -> A; action d: A -> A; action e: A -> A; action f: A -> A; action g: A -> A;`, api.ErrMany},
		{"", `entity Set {};`, api.ErrName},
		{"", `entity A {}; entity A {};`, api.ErrIs},
		{"", `entity A { a: Long, b: Long, c: Long, d: Long, e: Long, f: Long };`, api.ErrMany},
		{"", `entity A in A, A, A, A, A {};`, api.ErrMany},
		{"", `entity A in X {};`, api.ErrNone},
		{"", `entity A { n: Long, n: Bool };`, api.ErrIs},
		{"", `entity A { n: X };`, api.ErrNone},
		{"", `entity A {}; action a: A -> A; action a: A -> A;`, api.ErrIs},
		{"", `entity A {}; action a: A, A, A, A, A, A, A -> A;`, api.ErrMany},
		{"", `entity A {}; action a: A -> X;`, api.ErrNone},
	} {
		do(t, store.New(), api.CSchema, x.name, x.text, x.want)
		do(t, usual(t), api.CSchema, x.name, x.text, x.want)
	}
}

func TestP1502SchemasThatAreTaken(t *testing.T) {
	s := store.New()
	for _, text := range []string{
		``,
		`// nothing`,
		`entity A {};`,
		`entity A {}; action a: A -> A;`,
		source,
		`entity A in A, A { a: A, b: Set<A>, c: Set<Bool>, d: String, e: Long };`,
		`entity A {}; entity B {}; entity C {}; entity D {}; entity E {}; entity F {}; action a: A, B, C, D, E, F -> A, A; action b: A -> B;`,
		``,
	} {
		takes(t, s, api.CSchema, "", text)
	}
	takes(t, s, api.CSchema, "", `action b: B -> A; entity B { z: Bool, a: Long }; action a: A -> B, A; entity A in B {};`)
	checkKept(t, s, `entity A in B {};`, `entity B { a: Long, z: Bool };`, `action a: A -> B, A;`, `action b: B -> A;`)
	takes(t, s, api.CSchema, "", source)
	checkKept(t, s, usualTexts()[:5]...)
}

// misfits are schemas under which something of a usual store may not be, each with what must go ahead of it.
func misfits() []struct {
	old, words string
	want       api.Errno
	policies   string
	entities   []string
} {
	return []struct {
		old, words string
		want       api.Errno
		policies   string
		entities   []string
	}{
		{`action go: A -> A, B;`, ``, api.ErrName, "p", nil},
		{`action go: A -> A, B;`, `action go: C -> A, B;`, api.ErrName, "p", nil},
		{`action go: A -> A, B;`, `action go: A, B -> A;`, api.ErrName, "p", nil},
		{`n: Long`, `n: Long, m: Bool`, api.ErrName, "", []string{`A::"a"`, `A::"b"`}},
		{`n: Long`, `m: Long`, api.ErrName, "p", []string{`A::"a"`, `A::"b"`}},
		{`n: Long`, `n: Bool`, api.ErrType, "p", []string{`A::"a"`, `A::"b"`}},
		{`n: Long`, ``, api.ErrName, "p", []string{`A::"a"`, `A::"b"`}},
		{`A in A, B`, `A in B`, api.ErrType, "", []string{`A::"a"`}},
		{`A in A, B`, `A in A`, api.ErrType, "", []string{`A::"a"`, `A::"b"`}},
		{`A in A, B`, `A in C`, api.ErrType, "", []string{`A::"a"`, `A::"b"`}},
		{`l: Set<Long>`, `l: Set<String>`, api.ErrType, "", []string{`C::"c"`}},
		{`u: B`, `u: C`, api.ErrType, "", []string{`C::"c"`}},
		{`u: B`, `u: Set<B>`, api.ErrType, "", []string{`C::"c"`}},
		{`b: Bool, `, ``, api.ErrName, "", []string{`C::"c"`}},
		{`entity B in B {};`, `entity B in B { n: Long };`, api.ErrName, "", []string{`A::"a"`, `A::"b"`, `B::"b"`}},
		{source, `entity B {}; action go: B -> B;`, api.ErrName, "p", []string{`A::"a"`, `A::"b"`, `C::"c"`}},
		{source, `entity A in A, B { n: Long }; entity B {}; action go: A -> B;`, api.ErrName, "", []string{`C::"c"`}},
		{source, `entity A in A { n: Long }; action go: A -> A;`, api.ErrName, "f", []string{`C::"c"`, `A::"a"`, `A::"b"`, `B::"b"`}},
		{source, `entity A in A, B { n: Long }; entity B {}; entity C in A { b: Bool, l: Set<Long>, s: String, u: B };`, api.ErrNone, "p f", nil},
		{source, ``, api.ErrName, "p f", []string{`C::"c"`, `A::"a"`, `A::"b"`, `B::"b"`}},
	}
}

// A schema is refused while there is something that may not be by it, and taken once all of that is gone.
func TestP1502SchemasThatWaitForOthersToGo(t *testing.T) {
	for _, x := range misfits() {
		text := strings.Replace(source, x.old, x.words, 1)
		s := usual(t)
		do(t, s, api.CSchema, "", text, x.want)
		names := strings.Fields(x.policies)
		for i, name := range names {
			takes(t, s, api.CDrop, name, "")
			if i < len(names)-1 || len(x.entities) > 0 {
				checkIsRefused(t, s, text)
			}
		}
		for i, u := range x.entities {
			takes(t, s, api.CGone, "", u)
			if i < len(x.entities)-1 {
				checkIsRefused(t, s, text)
			}
		}
		takes(t, s, api.CSchema, "", text)
	}
}

func checkIsRefused(t *testing.T, s *store.Store, text string) {
	t.Helper()
	before := shown(s)
	if s.Apply(api.CSchema, "", text) == api.OK || shown(s) != before {
		t.Errorf("taken: %s; by\n%s", text, kept(s))
	}
}

// Of several policies the first by its name is told, not the first that was put; all of them ahead of the entities, and of these the first by its uid.
func TestP1502FirstOfManyMisfits(t *testing.T) {
	s := store.New()
	const text = `entity A { n: Long, m: Long }; entity B { n: Long }; action go: A -> A; action stop: B -> A;`
	takes(t, s, api.CSchema, "", text)
	takes(t, s, api.CPut, "z", `permit(principal == B::"b", action, resource);`)
	takes(t, s, api.CPut, "B", `permit(principal == A::"a", action, resource) when { principal.n == 1 } when { principal.m == 1 };`)
	takes(t, s, api.CPut, "a", `permit(principal, action == Action::"stop", resource);`)
	takesEach(t, s, api.CEntity, `B::"a" { n: 1 };`, `A::"b" { n: 1, m: 1 };`)
	for _, x := range []struct {
		drop, text string
		want       api.Errno
	}{
		{"", `entity A { n: Bool }; entity B { n: Bool }; action go: A -> A;`, api.ErrType},                    // B: n is no number
		{"", `entity A { n: Long }; entity B { n: Bool }; action go: A -> A;`, api.ErrName},                    // B: there is no m
		{"", `entity A { m: Bool }; entity B { n: Bool }; action go: A -> A;`, api.ErrName},                    // B: there is no n
		{"", `entity A { n: Long, m: Long }; entity B { n: Bool }; action go: B -> A;`, api.ErrNone},           // B: nobody is an A
		{"B", `entity A { n: Bool }; entity B { n: Bool }; action go: A -> A;`, api.ErrName},                   // a: there is no stop
		{"B a", `entity A { n: Bool }; entity B { n: Bool }; action go: A -> A;`, api.ErrNone},                 // z: nobody is a B
		{"B a", `entity A { n: Bool }; entity B { n: Bool }; action go: B -> A;`, api.ErrName},                 // A::"b" has an m
		{"B a", `entity A { n: Bool, m: Long }; entity B {}; action go: B -> A;`, api.ErrType},                 // A::"b" has a number
		{"B a", `entity A { n: Long, m: Long }; entity B {}; action go: B -> A;`, api.ErrName},                 // B::"a" has an n
		{"B a", `entity A { n: Long, m: Long }; entity B { n: Bool }; action go: B -> A;`, api.ErrType},        // B::"a" has a number
		{"B a", `entity A { n: Long, m: Long }; entity B { n: Long }; entity C {}; action x: B -> C;`, api.OK}, // nothing is wrong
	} {
		o, err := store.Of(s.Schema(), s.Policies(), s.Entities())
		if err != api.OK {
			t.Fatal(err)
		}
		for _, name := range strings.Fields(x.drop) {
			takes(t, o, api.CDrop, name, "")
		}
		do(t, o, api.CSchema, "", x.text, x.want)
	}
}

// What was refused by one schema is taken by the next one, and the other way about.
func TestP1502SchemaIsTheOneThatIsAsked(t *testing.T) {
	s := store.New()
	do(t, s, api.CPut, "p", permit, api.ErrName)
	do(t, s, api.CPut, "p", `permit(principal, action, resource);`, api.ErrNone)
	do(t, s, api.CEntity, "", `B::"b" {};`, api.ErrName)
	takes(t, s, api.CSchema, "", source)
	takes(t, s, api.CPut, "p", permit)
	takes(t, s, api.CEntity, "", `B::"b" {};`)
	takes(t, s, api.CDrop, "p", "")
	takes(t, s, api.CSchema, "", `entity A { n: Bool }; entity B {}; action go: A -> B;`)
	do(t, s, api.CPut, "p", permit, api.ErrType)
	do(t, s, api.CEntity, "", `A::"a" { n: 1 };`, api.ErrType)
	do(t, s, api.CEntity, "", `A::"a" in B::"b" { n: true };`, api.ErrType)
	takes(t, s, api.CEntity, "", `A::"a" { n: true };`)
	do(t, s, api.CSchema, "", source, api.ErrType)
	checkKept(t, s, `entity A { n: Bool };`, `entity B {};`, `action go: A -> B;`, `A::"a" { n: true };`, `B::"b" {};`)
	takes(t, s, api.CGone, "", `A::"a"`)
	takes(t, s, api.CSchema, "", source)
	takes(t, s, api.CEntity, "", `A::"a" in B::"b" { n: 1 };`)
	checkKept(t, s, append(usualTexts()[:5], `A::"a" in B::"b" { n: 1 };`, `B::"b" {};`)...)
}
