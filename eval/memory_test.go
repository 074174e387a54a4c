package eval_test

import (
	"fmt"
	"maps"
	"reflect"
	"slices"
	"strings"
	"testing"

	"chancel/api"
	"chancel/eval"
	"chancel/show"
)

// spares are what lies behind the ends of lists: each would change an answer, were it asked.
func spares() map[reflect.Type]any {
	spare := api.Attr{Name: "spare", V: long(1)}
	return map[reflect.Type]any{
		reflect.TypeFor[api.Entity](): api.Entity{U: uid("Spare", "x"), Attrs: []api.Attr{spare}},
		reflect.TypeFor[api.Attr]():   spare,
		reflect.TypeFor[api.Uid]():    uid("Spare", "x"),
		reflect.TypeFor[api.Value]():  ref("Spare", "x"),
		reflect.TypeFor[api.Expr]():   named(api.OStr, "spare"),
	}
}

// roomy copies a thing; each list in it has room behind it that is written full.
func roomy[T any](x T) T {
	var own T
	layRoomy(reflect.ValueOf(&own).Elem(), reflect.ValueOf(x), spares())
	return own
}

func layRoomy(to, from reflect.Value, spares map[reflect.Type]any) {
	switch from.Kind() {
	case reflect.Slice:
		n := from.Len()
		all := reflect.MakeSlice(from.Type(), n+2, n+2)
		for i := range n {
			layRoomy(all.Index(i), from.Index(i), spares)
		}
		for i := n; i < n+2; i++ {
			all.Index(i).Set(reflect.ValueOf(spares[from.Type().Elem()]))
		}
		to.Set(all.Slice(0, n))
	case reflect.Struct:
		for i := range from.NumField() {
			layRoomy(to.Field(i), from.Field(i), spares)
		}
	default:
		to.Set(from)
	}
}

// everything tells all that a thing holds, what lies in the spare room of its lists, too.
func everything(x any) string {
	var b strings.Builder
	tell(&b, reflect.ValueOf(x))
	return b.String()
}

func tell(b *strings.Builder, v reflect.Value) {
	switch v.Kind() {
	case reflect.Slice:
		fmt.Fprintf(b, "%d[", v.Len())
		for i := range v.Cap() {
			tell(b, v.Slice(0, v.Cap()).Index(i))
		}
		b.WriteString("]")
	case reflect.Struct:
		for i := range v.NumField() {
			tell(b, v.Field(i))
		}
	default:
		fmt.Fprintf(b, "%#v,", v)
	}
}

// spoil writes into all lists of a thing, into their spare room, too.
func spoil(x any) { spoilIn(reflect.ValueOf(x)) }

func spoilIn(v reflect.Value) {
	switch v.Kind() {
	case reflect.Slice:
		all := v.Slice(0, v.Cap())
		for i := range all.Len() {
			spoilIn(all.Index(i))
			all.Index(i).SetZero()
		}
	case reflect.Struct:
		for i := range v.NumField() {
			spoilIn(v.Field(i))
		}
	}
}

// asked are trees' texts, of each operation: some come to sets, some err.
func asked() []string {
	l := []string{
		`resource.l`, `resource.u`, `A::"b".w`, `[]`, `[3, 1, 2, 1]`, `[principal, action, resource]`, `if true then resource.s else []`, `if resource.l == [1, 2, 3] then resource.l else resource.v`, `(if principal has b then resource else principal).b`,
		`resource.l.contains(2)`, `resource.l.contains(4)`, `resource.u.contains(resource)`, `principal in resource.u`, `principal in [A::"b", A::"no"]`, `principal in principal.u`, `principal.s like "h*o"`, `resource.s == ["a", "b"]`, `resource.l != resource.l`,
		`principal.l - 1 * 2`, `principal.b && resource has l`, `principal in action || 1 < 2`, `-(principal.l)`, `!principal.b`, `1 >= 2`, `1 <= 2`, `1 > 2`, `"x"`, `principal.v`, `principal.spare`, `resource.u.contains(Spare::"x")`, `principal in Spare::"x"`, `Spare::"x" has spare`, `principal has spare`, `Spare::"x".spare`,
	}
	return append(l, slices.Sorted(maps.Keys(bad()))...)
}

// What is handed in is left alone, its spare room too, and is not shared with the answer; what lies in that room is not asked.
func TestP2WhatIsHandedInIsLeftAlone(t *testing.T) {
	for _, text := range asked() {
		plain, wrong := eval.Expr(usual(t), request(), tree(t, text))
		l, e := roomy(usual(t)), roomy(tree(t, text))
		before := everything(l) + everything(e)
		got, err := eval.Expr(l, request(), e)
		if err != wrong || !alike(got, plain) {
			t.Errorf("%s: %v, %#v; without spare room %v, %#v", text, err, got, wrong, plain)
		}
		if everything(l)+everything(e) != before {
			t.Errorf("%s: changed", text)
		}
		spoil(got)
		if everything(l)+everything(e) != before {
			t.Errorf("%s: shared with the answer", text)
		}
	}
}

// An answer stays as it is, whatever becomes of what was handed in, and of other answers.
func TestP2AnswersAreNewMemory(t *testing.T) {
	for _, text := range asked() {
		l, e := roomy(usual(t)), roomy(tree(t, text))
		got, _ := eval.Expr(l, request(), e)
		other, _ := eval.Expr(l, request(), e)
		before := everything(got)
		spoil(other)
		spoil(l)
		spoil(e)
		if everything(got) != before {
			t.Errorf("%s: %s; was %s", text, everything(got), before)
		}
	}
}

// Nothing is kept: the same calls in the same order answer the same again, though what they answered and were handed was written into.
func TestP3TheSameAgain(t *testing.T) {
	ask := func(l []api.Entity, e api.Expr) string {
		v, err := eval.Expr(l, request(), e)
		told := fmt.Sprintf("%#v, %#v", v, err)
		spoil(v)
		return told
	}
	var first []string
	for _, text := range asked() {
		l, e := usual(t), tree(t, text)
		first = append(first, ask(l, e))
		if again := ask(l, e); again != first[len(first)-1] {
			t.Errorf("%s: %s; was %s", text, again, first[len(first)-1])
		}
		spoil(l)
		spoil(e)
	}
	for range 3 {
		for i, text := range asked() {
			if again := ask(usual(t), tree(t, text)); again != first[i] {
				t.Errorf("%s: %s; was %s", text, again, first[i])
			}
		}
	}
}

// Lists of a tree and of entities may be the same ones: of entities that share a value's list, or their attributes, and of a node whose kids share theirs.
func TestP2ListsThatAreShared(t *testing.T) {
	shared := []api.Value{long(1), long(2)}
	attrs := []api.Attr{{Name: "l", V: set(shared...)}, {Name: "m", V: set(shared...)}}
	l := []api.Entity{{U: uid("A", "a"), Attrs: attrs}, {U: uid("B", "b"), Attrs: attrs}}
	kids := []api.Expr{tree(t, `principal.l`), tree(t, `resource.m`)}
	e := node(api.OAnd, node(api.OSame, kids...), node(api.OHolds, kids[0], tree(t, `2`)))
	before := everything(l) + everything(e)
	checkValue(t, l, e, truth(true))
	checkValue(t, l, node(api.OIf, e, kids[0], kids[1]), set(shared...))
	if everything(l)+everything(e) != before {
		t.Errorf("%s: changed", show.Expr(e))
	}
}
