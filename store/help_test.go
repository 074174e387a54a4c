package store_test

import (
	"fmt"
	"slices"
	"strings"
	"testing"

	"chancel/api"
	"chancel/decide"
	"chancel/parse"
	"chancel/show"
	"chancel/store"
)

// source is a schema's text with a field of each kind of type; not all kinds may do all actions.
const source = `
entity A in A, B { n: Long };
entity B in B {};
entity C in A { b: Bool, l: Set<Long>, s: String, u: B };
action go: A -> A, B;
action stop: C, A -> C;
`

// permit is a policy's text that is well typed by source.
const permit = `permit(principal, action == Action::"go", resource) when { principal.n == 1 };`

// forbid is another one.
const forbid = `forbid(principal in B::"b", action, resource);`

// fineC has attributes that fit C's fields.
const fineC = ` { b: true, l: [1, 2], s: "x", u: B::"gone" };`

func uid(kind, id string) api.Uid { return api.Uid{Type: kind, Id: id} }

// request is of words: the types and ids of who and what, and between them the action's id.
func request(text string) api.Request {
	part := strings.Fields(text)
	return api.Request{Principal: uid(part[0], part[1]), Action: uid("Action", part[2]), Resource: uid(part[3], part[4])}
}

// kept is all that a store keeps, as text: the schema, policies, entities, parted by line feeds.
func kept(s *store.Store) string {
	var all []string
	if text := show.Schema(s.Schema()); text != "" {
		all = append(all, text)
	}
	for _, p := range s.Policies() {
		all = append(all, p.Name+": "+show.Policy(p.P))
	}
	for _, e := range s.Entities() {
		all = append(all, show.Entity(e))
	}
	return strings.Join(all, "\n")
}

// dump tells all fields of whatever there is; no list and an empty one are the same.
func dump(x any) string {
	return strings.ReplaceAll(fmt.Sprintf("%#v", x), "(nil)", "{}")
}

// shown is all that a store can be asked at once: what it keeps, field by field, whether it is sound, and some decisions.
func shown(s *store.Store) string {
	all := dump(s.Schema()) + dump(s.Policies()) + dump(s.Entities()) + fmt.Sprint(s.Sound())
	for _, text := range []string{"A a go B b", "A b go A a", "C c stop C c", "B b go Z z"} {
		all += told(s.Ask(request(text)))
	}
	return all
}

// told is an answer as text: +, if it allows, or -, then names of reasons, then behind a stroke of errors.
func told(a api.Answer) string {
	sign := "-"
	if a.Allow {
		sign = "+"
	}
	return sign + strings.Join(a.Reasons, " ") + "|" + strings.Join(a.Errors, " ")
}

// do does a command, and holds its verdict against the one that is wanted. What is refused changes nothing (P5), and what is kept is sound (P1504).
func do(t testing.TB, s *store.Store, kind int, name, text string, want api.Errno) {
	t.Helper()
	before := shown(s)
	if got := s.Apply(kind, name, text); got != want {
		t.Errorf("Apply of %d, %q, %.100q: %v; want %v; of\n%s", kind, name, text, got, want, kept(s))
	}
	if want != api.OK && shown(s) != before {
		t.Errorf("Apply of %d, %q, %.100q: %v, but changed to\n%s", kind, name, text, want, kept(s))
	}
	if !s.Sound() {
		t.Errorf("Apply of %d, %q, %.100q: not sound:\n%s", kind, name, text, kept(s))
	}
}

// takes does a command, which must be taken.
func takes(t testing.TB, s *store.Store, kind int, name, text string) {
	t.Helper()
	do(t, s, kind, name, text, api.OK)
}

// takesEach does a command of each text, of a kind that has no name.
func takesEach(t testing.TB, s *store.Store, kind int, texts ...string) {
	t.Helper()
	for _, text := range texts {
		takes(t, s, kind, "", text)
	}
}

// checkKept holds what a store keeps against texts.
func checkKept(t testing.TB, s *store.Store, want ...string) {
	t.Helper()
	if got := kept(s); got != strings.Join(want, "\n") {
		t.Errorf("it keeps\n%s\nwant\n%s", got, strings.Join(want, "\n"))
	}
}

// schemed is a store with source, and nothing else.
func schemed(t testing.TB) *store.Store {
	t.Helper()
	s := store.New()
	takes(t, s, api.CSchema, "", source)
	return s
}

// peopled is a store with source and entities, of which two are parents.
func peopled(t testing.TB) *store.Store {
	t.Helper()
	s := schemed(t)
	takesEach(t, s, api.CEntity, `B::"b" {};`, `A::"b" in B::"b" { n: 1 };`, `A::"a" in A::"b" { n: 1 };`, `C::"c"`+fineC)
	return s
}

// usual is one with two policies, too.
func usual(t testing.TB) *store.Store {
	t.Helper()
	s := peopled(t)
	takes(t, s, api.CPut, "p", permit)
	takes(t, s, api.CPut, "f", forbid)
	return s
}

// usualTexts is what usual keeps, line by line: five of the schema, two policies, four entities.
func usualTexts() []string {
	return []string{
		`entity A in A, B { n: Long };`,
		`entity B in B {};`,
		`entity C in A { b: Bool, l: Set<Long>, s: String, u: B };`,
		`action go: A -> A, B;`,
		`action stop: C, A -> C;`,
		`f: ` + forbid,
		`p: ` + permit,
		`A::"a" in A::"b" { n: 1 };`,
		`A::"b" in B::"b" { n: 1 };`,
		`B::"b" {};`,
		`C::"c" { b: true, l: [1, 2], s: "x", u: B::"gone" };`,
	}
}

// swapped is usualTexts with other lines in the place of some; an empty one is left out.
func swapped(lines map[int]string) []string {
	l := usualTexts()
	for at, text := range lines {
		l[at] = text
	}
	return slices.DeleteFunc(l, func(text string) bool { return text == "" })
}

// full is a store with as many policies, or entities, as there may be.
func full(t testing.TB, kind int) *store.Store {
	t.Helper()
	s := schemed(t)
	switch kind {
	case api.CPut:
		for i := range api.MaxPolicies {
			takes(t, s, api.CPut, fmt.Sprint("p", i), permit)
		}
	case api.CEntity:
		for i := range api.MaxEntities {
			takes(t, s, api.CEntity, "", fmt.Sprintf(`A::"%02d" { n: %d };`, i, i))
		}
	}
	return s
}

// policy is the one of a text.
func policy(t testing.TB, text string) api.Policy {
	t.Helper()
	p, err := parse.Policy(text)
	if err != api.OK {
		t.Fatalf("%s: %v", text, err)
	}
	return p
}

// named are policies of one text, by names of another one.
func named(t testing.TB, text, names string) []decide.Named {
	t.Helper()
	var l []decide.Named
	for _, name := range strings.Fields(names) {
		l = append(l, decide.Named{Name: name, P: policy(t, text)})
	}
	return l
}

// goodNames are names, rising.
func goodNames() []string {
	return []string{"A", "A0", "AA", "Action", "Z", "_", "_9", "__", "a", "a0", "aA", "a_", "aa", "abcdefghijkl", "b", "in", "permit", "true", "zzzzzzzzzzzz"}
}

// badNames are none.
func badNames() []string {
	return []string{"", " ", "0", "9a", "a b", " a", "a ", "a-b", "a.b", "é", "aé", "\xff", "a\xff", "\x00", "a\x00", "abcdefghijklm", strings.Repeat("a", 10000), `"a"`, "a\n"}
}
