package eval_test

import (
	"reflect"
	"strings"
	"testing"

	"chancel/api"
	"chancel/ents"
	"chancel/eval"
	"chancel/parse"
	"chancel/show"
	"chancel/value"
)

func uid(kind, id string) api.Uid { return api.Uid{Type: kind, Id: id} }

func truth(b bool) api.Value { return api.Value{Kind: api.VBool, B: b} }

func long(n int64) api.Value { return api.Value{Kind: api.VLong, N: n} }

func str(s string) api.Value { return api.Value{Kind: api.VStr, S: s} }

func ref(kind, id string) api.Value { return api.Value{Kind: api.VUid, U: uid(kind, id)} }

// set has elements that rise already.
func set(l ...api.Value) api.Value { return api.Value{Kind: api.VSet, L: l} }

func node(op int, kids ...api.Expr) api.Expr { return api.Expr{Op: op, Kids: kids} }

func named(op int, s string, kids ...api.Expr) api.Expr { return api.Expr{Op: op, S: s, Kids: kids} }

// tree is the one of a text.
func tree(t testing.TB, text string) api.Expr {
	t.Helper()
	e, err := parse.Expr(text)
	if err != api.OK {
		t.Fatalf("%s: %v", text, err)
	}
	return e
}

// row is the entities of texts, at their places.
func row(t testing.TB, texts ...string) []api.Entity {
	t.Helper()
	var l []api.Entity
	for _, text := range texts {
		e, err := parse.Entity(text)
		if err != api.OK {
			t.Fatalf("%s: %v", text, err)
		}
		l = ents.Put(l, e)
	}
	if err := ents.Check(l); err != api.OK || len(l) != len(texts) {
		t.Fatalf("%q: %d, %v", texts, len(l), err)
	}
	return l
}

// usual are entities with attributes of each kind; some of those that they name are not there. Three stand in a circle.
func usual(t testing.TB) []api.Entity {
	t.Helper()
	return row(t,
		`A::"a" in A::"b", B::"b" { b: true, l: 9223372036854775807, s: "hello", u: B::"b", v: A::"gone" };`,
		`A::"b" in B::"c", B::"gone" { b: false, l: -9223372036854775807, s: "", u: A::"b", w: [] };`,
		`A::"none" {};`,
		`B::"b" in B::"top" { b: [false, true], l: [3, 1, 2], s: ["b", "a"], u: [A::"b", A::"gone", B::"b"], v: [1] };`,
		`B::"c" in B::"top" { _: 1, B: 2, a1: 3, b: 4 };`,
		`B::"top" {};`,
		`C::"x" in C::"y" {};`,
		`C::"y" in C::"z" {};`,
		`C::"z" in C::"x", B::"top" {};`,
	)
}

func request() api.Request {
	return api.Request{Principal: uid("A", "a"), Action: uid("Action", "go"), Resource: uid("B", "b")}
}

// checkValue tells whether a tree comes to a value.
func checkValue(t *testing.T, l []api.Entity, e api.Expr, want api.Value) {
	t.Helper()
	got, err := eval.Expr(l, request(), e)
	if err != api.OK || !alike(got, want) {
		t.Errorf("%s: %v, %#v; want %#v", show.Expr(e), err, got, want)
	}
}

// alike asks for all fields; no list and an empty one are the same.
func alike(a, b api.Value) bool {
	if len(a.L) == 0 && len(b.L) == 0 {
		a.L, b.L = nil, nil
	}
	return reflect.DeepEqual(a, b)
}

// checkErr tells whether a tree errs so, with nothing beside the error.
func checkErr(t *testing.T, l []api.Entity, e api.Expr, want api.Errno) {
	t.Helper()
	got, err := eval.Expr(l, request(), e)
	if err != want || !alike(got, api.Value{}) {
		t.Errorf("%s: %v, %#v; want %v", show.Expr(e), err, got, want)
	}
}

// checkTexts holds trees' texts, among the usual entities, against values' texts.
func checkTexts(t *testing.T, want map[string]string) {
	t.Helper()
	for text, v := range want {
		got, err := eval.Expr(usual(t), request(), tree(t, text))
		if err != api.OK || value.Text(got) != v || value.Check(got) != api.OK {
			t.Errorf("%s: %v, %#v; want %s", text, err, got, v)
		}
	}
}

func checkTrue(t *testing.T, texts ...string) {
	t.Helper()
	for _, text := range texts {
		checkValue(t, usual(t), tree(t, text), truth(true))
	}
}

func checkFalse(t *testing.T, texts ...string) {
	t.Helper()
	for _, text := range texts {
		checkValue(t, usual(t), tree(t, text), truth(false))
	}
}

func checkErrs(t *testing.T, want api.Errno, texts ...string) {
	t.Helper()
	for _, text := range texts {
		checkErr(t, usual(t), tree(t, text), want)
	}
}

// sample is a value, with trees that come to it in the usual entities: what is written so, what is an attribute, what is made.
type sample struct {
	v     api.Value
	texts []string
}

// samples are some of each kind.
func samples() []sample {
	return []sample{
		{truth(true), []string{`true`, `principal.b`, `!false`}},
		{truth(false), []string{`false`, `A::"b".b`, `1 == true`}},
		{long(0), []string{`0`, `-0`, `1 - 1`}},
		{long(1), []string{`1`, `B::"c"._`, `3 - 2`}},
		{long(1<<63 - 1), []string{`9223372036854775807`, `principal.l`}},
		{long(-1 << 63), []string{`A::"b".l - 1`}},
		{str(""), []string{`""`, `A::"b".s`}},
		{str("hello"), []string{`"hello"`, `principal.s`}},
		{str("1"), []string{`"1"`}},
		{ref("A", "a"), []string{`A::"a"`, `principal`, `if true then principal else 1`}},
		{ref("A", "gone"), []string{`A::"gone"`, `principal.v`}},
		{ref("Action", "go"), []string{`action`, `Action::"go"`}},
		{set(), []string{`[]`, `A::"b".w`}},
		{set(truth(false), truth(true)), []string{`[true, false]`, `resource.b`}},
		{set(long(1)), []string{`[1, 1]`, `resource.v`}},
		{set(long(1), long(2), long(3)), []string{`[3, 2, 1]`, `resource.l`}},
		{set(str("a"), str("b")), []string{`["a", "b", "a"]`, `resource.s`}},
		{set(ref("A", "b"), ref("A", "gone"), ref("B", "b")), []string{`[resource, A::"gone", A::"b"]`, `resource.u`}},
		{set(ref("A", "a")), []string{`[principal]`}},
	}
}

// each goes through all trees of samples, with the value of each.
func each(t *testing.T, do func(v api.Value, e api.Expr)) {
	t.Helper()
	for _, x := range samples() {
		for _, text := range x.texts {
			do(x.v, tree(t, text))
		}
	}
}

// eachTwo goes through all pairs of samples, by the first tree of each.
func eachTwo(t *testing.T, do func(v, w api.Value, a, b api.Expr)) {
	t.Helper()
	for _, x := range samples() {
		for _, y := range samples() {
			do(x.v, y.v, tree(t, x.texts[0]), tree(t, y.texts[0]))
		}
	}
}

// checkOf holds a tree against a value, if its kids are of the kinds that are asked for, else against ErrType.
func checkOf(t *testing.T, e api.Expr, fits bool, want api.Value) {
	t.Helper()
	if fits {
		checkValue(t, usual(t), e, want)
	} else {
		checkErr(t, usual(t), e, api.ErrType)
	}
}

func TestSamplesAreWhatTheySay(t *testing.T) {
	kinds := map[int]int{}
	each(t, func(v api.Value, e api.Expr) {
		kinds[v.Kind]++
		if err := value.Check(v); err != api.OK {
			t.Errorf("%#v: %v", v, err)
		}
		checkValue(t, usual(t), e, v)
	})
	if len(kinds) != 5 {
		t.Error(kinds)
	}
}

// longText is one of as many runes as there may be.
func longText(one string) string { return strings.Repeat(one, api.MaxString) }
