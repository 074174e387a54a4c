package eval_test

import (
	"slices"
	"strings"
	"testing"

	"chancel/api"
	"chancel/value"
)

func TestP1301SetsOfTwo(t *testing.T) {
	eachTwo(t, func(v, w api.Value, a, b api.Expr) {
		fits := v.Kind == w.Kind && v.Kind != api.VSet
		want := []api.Value{v, w}
		if value.Less(w, v) {
			want = []api.Value{w, v}
		}
		if alike(v, w) {
			want = want[:1]
		}
		checkOf(t, node(api.OSet, a, b), fits, set(want...))
		// The same ones again and again are no more than they are.
		checkOf(t, node(api.OSet, b, a, a, b, a, b, b, a), fits, set(want...))
		checkOf(t, node(api.OSet, a, a, a, a, a, a, a, b), fits, set(want...))
	})
	each(t, func(v api.Value, e api.Expr) {
		checkOf(t, node(api.OSet, e), v.Kind != api.VSet, set(v))
	})
}

func TestP1301Sets(t *testing.T) {
	checkTexts(t, map[string]string{
		`[]`: `[]`, `[3, 1, 2, 3, 1]`: `[1, 2, 3]`, `[1 + 1, 2, 4 - 2]`: `[2]`, `[true, 1 == 2, false]`: `[false, true]`, `["b", "", "é", "a"]`: `["", "a", "b", "é"]`,
		`[B::"a", A::"b", A::"a", principal]`: `[A::"a", A::"b", B::"a"]`, `[action, resource]`: `[Action::"go", B::"b"]`, `[8, 7, 6, 5, 4, 3, 2, 1]`: `[1, 2, 3, 4, 5, 6, 7, 8]`, `[principal.l, A::"b".l, -1]`: `[-9223372036854775807, -1, 9223372036854775807]`,
	})
	checkErrs(t, api.ErrType, `[1, 2, true]`, `[1, 2, 3, 4, 5, 6, 7, "8"]`, `[[]]`, `[[], []]`, `[1, []]`, `[resource.l]`, `[principal, 1]`, `[principal, "A::a"]`)
}

// More than MaxSet kids are none of a tree that may be: such a set is as value.Set says.
func TestP1301SetsOfMany(t *testing.T) {
	var kids []api.Expr
	var l []api.Value
	for n := range int64(12) {
		kids, l = append(kids, api.Expr{Op: api.OLong, N: n}), append(l, long(n))
		if len(l) > api.MaxSet {
			checkErr(t, nil, node(api.OSet, kids...), api.ErrMany)
			checkErr(t, nil, node(api.OSet, append(slices.Clone(kids), api.Expr{Op: api.OBool})...), api.ErrType)
		} else {
			checkValue(t, nil, node(api.OSet, kids...), set(l...))
			checkValue(t, nil, node(api.OSet, slices.Concat(kids, kids)...), set(l...))
		}
	}
	checkErrs(t, api.ErrName, `[1, 2, 3, 4, 5, 6, 7, principal.x]`)
}

func TestP1301Contains(t *testing.T) {
	eachTwo(t, func(v, w api.Value, a, b api.Expr) {
		holds := slices.ContainsFunc(v.L, func(x api.Value) bool { return alike(x, w) })
		checkOf(t, node(api.OHolds, a, b), v.Kind == api.VSet, truth(holds))
		if v.Kind != api.VSet {
			checkValue(t, usual(t), node(api.OHolds, node(api.OSet, a, a), b), truth(alike(v, w)))
		}
	})
	checkTrue(t, `resource.l.contains(3)`, `resource.l.contains(4 - 3)`, `[1, 2, 3, 4, 5, 6, 7, 8].contains(8)`, `[1, 2, 3, 4, 5, 6, 7, 8].contains(1)`, `resource.u.contains(resource)`, `resource.u.contains(A::"gone")`, `resource.b.contains(true)`, `["*"].contains("*")`)
	checkFalse(t, `resource.l.contains(4)`, `resource.l.contains("1")`, `[1].contains(true)`, `["a"].contains("*")`, `["a"].contains("")`, `resource.u.contains(principal)`, `[B::"top"].contains(resource)`, `[].contains([])`, `[].contains(1)`, `[1].contains([1])`, `resource.l.contains(resource.l)`, `[A::"b"].contains(A::"B")`)
	checkErrs(t, api.ErrType, `principal.contains(principal)`, `"abc".contains("a")`, `1.contains(1)`, `resource.contains(A::"b")`, `true.contains(true)`)
}

func TestP1301Like(t *testing.T) {
	each(t, func(v api.Value, e api.Expr) {
		for _, pattern := range []string{"*", "h*o", "", "hello", "*1*"} {
			like := map[string]string{"*": "hello 1", "h*o": "hello", "": "", "hello": "hello", "*1*": "1"}[pattern]
			want := v.S == "" && (pattern == "" || pattern == "*") || v.S != "" && strings.Contains(like, v.S)
			checkOf(t, named(api.OLike, pattern, e), v.Kind == api.VStr, truth(want))
		}
	})
	checkTrue(t, `"abcab" like "a*b"`, `"" like ""`, `"" like "***"`, `"a*b" like "a*b"`, `"héé" like "h*é"`, `"\n" like "*\n"`, `principal.s like "*l*l*"`, `principal.s like "hel*lo"`, `"😀" like "*"`)
	checkFalse(t, `"abcab" like "a*c"`, `"" like "?"`, `"ab" like "a"`, `"ab" like "b"`, `"hello" like "l*l"`, `"A" like "a"`, `"aba" like "ab*ba"`, `"a" like "a*a"`, `"é" like "e*"`)
}
