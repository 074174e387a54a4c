package types_test

import (
	"fmt"
	"strings"
	"testing"

	"chancel/api"
	"chancel/parse"
	"chancel/schema"
	"chancel/show"
	"chancel/types"
)

// source has a field of each type there is. An action and a field have the name of a kind; B's parents are its own.
const source = `
entity A in B { b: Bool, l: Long, s: String, u: B, v: A };
entity B in B { b: Set<Bool>, l: Set<Long>, s: Set<String>, u: Set<A>, v: Set<B> };
entity C { A: C };
action A: C -> A;
action a: A, B -> B, C;
action b: A -> A, B, C;
`

// made is the schema of a text, which must be one that may be.
func made(t testing.TB, text string) api.Schema {
	t.Helper()
	s, err := parse.Schema(text)
	if err != api.OK {
		t.Fatalf("%s: %v", text, err)
	}
	if err := schema.Check(s); err != api.OK {
		t.Fatalf("%s: Check of it: %v", text, err)
	}
	return s
}

func usual(t testing.TB) api.Schema { return made(t, source) }

// tree is the one of a text, policy likewise.
func tree(t testing.TB, text string) api.Expr {
	t.Helper()
	e, err := parse.Expr(text)
	if err != api.OK {
		t.Fatalf("%s: %v", text, err)
	}
	return e
}

func policy(t testing.TB, text string) api.Policy {
	t.Helper()
	p, err := parse.Policy(text)
	if err != api.OK {
		t.Fatalf("%s: %v", text, err)
	}
	return p
}

// env is one of a text's words: principal, action, resource.
func env(text string) types.Env {
	part := strings.Fields(text)
	return types.Env{Principal: part[0], Action: part[1], Resource: part[2]}
}

func usualEnv() types.Env { return env("A a B") }

func node(op int, kids ...api.Expr) api.Expr { return api.Expr{Op: op, Kids: kids} }

func named(op int, s string, kids ...api.Expr) api.Expr { return api.Expr{Op: op, S: s, Kids: kids} }

func uid(kind, id string) api.Uid { return api.Uid{Type: kind, Id: id} }

func entity(kind, id string) api.Expr { return api.Expr{Op: api.OUid, U: uid(kind, id)} }

func truth(b bool) api.Expr { return api.Expr{Op: api.OBool, B: b} }

func long(n int64) api.Expr { return api.Expr{Op: api.OLong, N: n} }

func variable(s string) api.Expr { return named(api.OVar, s) }

// typeOf is the type of a word: Bool, Long, String, or another name of entities; with Set and a space ahead a set of it.
func typeOf(text string) api.Type {
	base, isSet := strings.CutPrefix(text, "Set ")
	one := api.Type{Kind: api.TUid, Name: base}
	switch base {
	case "Bool":
		one = api.Type{Kind: api.TBool}
	case "Long":
		one = api.Type{Kind: api.TLong}
	case "String":
		one = api.Type{Kind: api.TStr}
	}
	if isSet {
		return api.Type{Kind: api.TSet, Of: one.Kind, Name: one.Name}
	}
	return one
}

// sample is a text of trees of a type, in the usual environment.
type sample struct {
	kind  string
	trees []string
}

// samples have some of each type there is.
func samples() []sample {
	return []sample{
		{"Bool", []string{`true`, `principal.b`, `principal has x`}},
		{"Long", []string{`1`, `principal.l`, `-1`}},
		{"String", []string{`"a"`, `principal.s`, `if true then "" else "b"`}},
		{"A", []string{`principal`, `A::"x"`, `principal.v`}},
		{"B", []string{`resource`, `B::""`, `principal.u`}},
		{"C", []string{`C::"A"`, `C::"A".A`}},
		{"Action", []string{`action`, `Action::"a"`, `Action::"A"`}},
		{"Set Bool", []string{`[true]`, `resource.b`}},
		{"Set Long", []string{`[1, 2]`, `resource.l`}},
		{"Set String", []string{`["a"]`, `resource.s`}},
		{"Set A", []string{`[principal]`, `resource.u`}},
		{"Set B", []string{`[resource, B::"x"]`, `resource.v`}},
		{"Set C", []string{`[C::""]`}},
		{"Set Action", []string{`[action, Action::"b"]`}},
	}
}

// kindsOf are the words of all samples.
func kindsOf(l []sample) []string {
	var words []string
	for _, x := range l {
		words = append(words, x.kind)
	}
	return words
}

// treesOf are all samples' trees of a type.
func treesOf(t testing.TB, kind string) []api.Expr {
	t.Helper()
	var l []api.Expr
	for _, x := range samples() {
		for _, text := range x.trees {
			if x.kind == kind {
				l = append(l, tree(t, text))
			}
		}
	}
	if len(l) == 0 {
		t.Fatalf("no tree of %s", kind)
	}
	return l
}

// checkType tells whether a tree is of a word's type.
func checkType(t *testing.T, s api.Schema, env types.Env, e api.Expr, want string) {
	t.Helper()
	got, err := types.Of(s, env, e)
	if err != api.OK || got != typeOf(want) {
		t.Errorf("Of %s in %v: %v, %+v; want %s", show.Expr(e), env, err, got, want)
	}
}

// checkWrong tells whether a tree errs so, with nothing beside the error.
func checkWrong(t *testing.T, s api.Schema, env types.Env, e api.Expr, want api.Errno) {
	t.Helper()
	got, err := types.Of(s, env, e)
	if err != want || got != (api.Type{}) {
		t.Errorf("Of %s in %v: %v, %+v; want %v", show.Expr(e), env, err, got, want)
	}
}

// checkTexts holds trees' texts against words of types.
func checkTexts(t *testing.T, want map[string]string) {
	t.Helper()
	for text, kind := range want {
		checkType(t, usual(t), usualEnv(), tree(t, text), kind)
	}
}

func checkWrongs(t *testing.T, want api.Errno, texts ...string) {
	t.Helper()
	for _, text := range texts {
		checkWrong(t, usual(t), usualEnv(), tree(t, text), want)
	}
}

// checkEnvs tells whether a policy has just these environments, each one a text of words, parted by commas.
func checkEnvs(t *testing.T, s api.Schema, p api.Policy, want string) {
	t.Helper()
	var l []string
	for _, e := range types.Envs(s, p) {
		l = append(l, e.Principal+" "+e.Action+" "+e.Resource)
	}
	if got := strings.Join(l, ", "); got != want {
		t.Errorf("Envs of %s: %s; want %s", show.Policy(p), got, want)
	}
}

func checkPolicy(t *testing.T, s api.Schema, p api.Policy, want api.Errno) {
	t.Helper()
	if got := types.Check(s, p); got != want {
		t.Errorf("Check of %s: %v; want %v", show.Policy(p), got, want)
	}
}

// dump tells all fields of whatever there is; no list and an empty one are the same.
func dump(x any) string {
	return strings.ReplaceAll(fmt.Sprintf("%#v", x), "(nil)", "{}")
}
