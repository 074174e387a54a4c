package eval_test

import (
	"slices"
	"testing"

	"chancel/api"
	"chancel/parse"
)

// operation is one with kids that it allows, and looks at all of, among the usual entities.
type operation struct {
	op   int
	s    string
	kids []string
}

func operations() []operation {
	l := []operation{
		{api.OSet, "", []string{`1`}}, {api.OSet, "", []string{`1`, `2`, `3`}}, {api.OGet, "l", []string{`principal`}}, {api.OHas, "l", []string{`principal`}},
		{api.OHolds, "", []string{`[1]`, `1`}}, {api.OLike, "*", []string{`"a"`}}, {api.ONot, "", []string{`true`}}, {api.ONeg, "", []string{`1`}},
		{api.OSame, "", []string{`1`, `2`}}, {api.OOther, "", []string{`1`, `2`}}, {api.OIn, "", []string{`principal`, `resource`}},
	}
	for op := api.OMul; op <= api.OMost; op++ {
		l = append(l, operation{op, "", []string{`1`, `2`}})
	}
	return append(l, operation{api.OAnd, "", []string{`true`, `true`}}, operation{api.OOr, "", []string{`false`, `true`}})
}

func (o operation) with(at int, kid string) operation {
	o.kids = slices.Clone(o.kids)
	o.kids[at] = kid
	return o
}

func (o operation) tree(t *testing.T) api.Expr {
	t.Helper()
	e := named(o.op, o.s)
	for _, kid := range o.kids {
		e.Kids = append(e.Kids, tree(t, kid))
	}
	return e
}

// A kid's error is the whole's, whichever kid it is; of two that of the first one.
func TestP1301ErrorsOfKids(t *testing.T) {
	seen := map[int]bool{}
	for _, o := range operations() {
		seen[o.op] = true
		for first, err := range bad() {
			for i := range o.kids {
				ahead := o.with(i, first)
				checkErr(t, usual(t), ahead.tree(t), err)
				for k := i + 1; k < len(o.kids); k++ {
					for second := range bad() {
						checkErr(t, usual(t), ahead.with(k, second).tree(t), err)
					}
				}
			}
		}
	}
	if len(seen) != api.OOr-api.OSet+1 {
		t.Errorf("%d operations", len(seen))
	}
}

// But for && and || all kids are looked at ahead of what is said of the first one's value.
func TestP1301KidsAheadOfTheirOperation(t *testing.T) {
	for _, o := range operations() {
		if len(o.kids) < 2 || o.op == api.OSame || o.op == api.OOther {
			continue
		}
		for i := range o.kids {
			// None of them allows a set of truths, but contains, which allows any value at its second place.
			wrong := o.with(i, `[true]`)
			if o.op == api.OHolds {
				wrong = o.with(i, `true`)
			}
			if o.op != api.OHolds || i == 0 {
				checkErr(t, usual(t), wrong.tree(t), api.ErrType)
			}
			for k := range o.kids {
				if k == i {
					continue
				}
				for text, err := range bad() {
					want := err
					if i == 0 && (o.op == api.OAnd || o.op == api.OOr) {
						want = api.ErrType
					}
					checkErr(t, usual(t), wrong.with(k, text).tree(t), want)
				}
			}
		}
	}
	checkErrs(t, api.ErrGone, `true + A::"no".n`, `[1, true, A::"no".n]`, `[[1], A::"no".n]`, `1.contains(A::"no".n)`, `1 in A::"no".n`, `principal.l < A::"no".n`, `[1, 2, A::"no".n, true]`, `1 == A::"no".n`, `A::"no".n != A::"no".m`)
	checkErrs(t, api.ErrName, `principal.x + A::"no".n`, `[principal.x, A::"no".n]`, `true == principal.x`, `[1, true, principal.x, A::"no".n]`, `principal.x in 1`)
	checkErrs(t, api.ErrOver, `principal.l + 1 + true`, `(principal.l + 1) * A::"no".n`, `true - (principal.l + 1)`, `[true, 1, principal.l * 2]`)
}

// What stands within is told ahead of what stands about it, and what stands to the left ahead of what is deeper to the right.
func TestP1301WithinAheadOfAbout(t *testing.T) {
	for text, err := range bad() {
		checkErrs(t, err, `[[`+text+`]]`, `!(1 + `+text+`)`, `-(`+text+` like "a")`, `(`+text+` in 1).x`, `1 in [1, `+text+`]`, `(if `+text+` then 1 else 1) && 1`, `1 == (2 == (3 == `+text+`))`, `-(`+text+`).x`, `[`+text+`, 1 + true, principal.x]`, text+` + principal.x.y`, `(`+text+` < 1) == (1 + true)`, `1 + (true + (2 + `+text+`))`)
	}
	checkErrs(t, api.ErrType, `(1 + true) + A::"no".n`, `!1 == principal.x`, `[[1]] == A::"no".n`, `(1 + true).x`, `1.x.y`, `(1 + (2 + true)) + principal.x`, `-(-true + principal.l)`)
	checkErrs(t, api.ErrOver, `(principal.l + 1) + (1 + true)`, `-(principal.l + 1).x`, `[principal.l + 1, [1]]`)
}

// Of an operation's own: an entity that is not there is told ahead of the attribute, and a value that is no number ahead of the sum.
func TestP1301OwnErrors(t *testing.T) {
	checkErrs(t, api.ErrType, `principal.l + true`, `true + principal.l`, `"" * principal.l`, `-[principal.l]`, `1 in []`, `"" in [1]`, `1.contains(true)`)
	checkErrs(t, api.ErrGone, `A::"no".x`, `A::"no".l`)
	checkErrs(t, api.ErrName, `A::"none".l`)
}

// As deep as a tree may be, and as one may be that is handed in: of each operation, by each of its kids.
func TestP1301Deep(t *testing.T) {
	for _, depth := range []int{api.MaxDepth, 100} {
		for text, err := range bad() {
			for _, o := range operations() {
				for i := range o.kids {
					checkDeep(t, depth, text, err, func(e api.Expr) api.Expr {
						about := o.tree(t)
						about.Kids[i] = e
						return about
					})
				}
			}
		}
	}
	sum, sign, branch := tree(t, `0`), long(1), tree(t, `resource`)
	negative := tree(t, `1`)
	for i := range 99 {
		sum, negative, branch = node(api.OAdd, tree(t, `1`), sum), node(api.ONeg, negative), node(api.OIf, tree(t, `true`), branch, tree(t, `1`))
		sign.N = -sign.N
		checkValue(t, usual(t), sum, long(int64(i+1)))
		checkValue(t, usual(t), negative, sign)
		checkValue(t, usual(t), branch, ref("B", "b"))
	}
	self := row(t, `A::"a" { u: A::"a" };`)
	e := tree(t, `principal`)
	for range 99 {
		e = named(api.OGet, "u", e)
	}
	checkValue(t, self, e, ref("A", "a"))
	checkErr(t, self, named(api.OGet, "v", e), api.ErrName)
}

// checkDeep lays something about a tree that errs, again and again, until it is as deep as is asked for.
func checkDeep(t *testing.T, depth int, text string, want api.Errno, about func(api.Expr) api.Expr) {
	t.Helper()
	e := tree(t, text)
	for parse.Depth(e) < depth {
		e = about(e)
	}
	checkErr(t, usual(t), e, want)
}
