package types_test

import (
	"slices"
	"testing"

	"chancel/api"
	"chancel/types"
)

// wrongName and wrongType err each in their own way, kids and all.
func wrongName() api.Expr { return entity("D", "") }

func wrongType() api.Expr { return node(api.ONot, long(1)) }

// operation is one with kids that it allows, in the usual environment.
type operation struct {
	op   int
	s    string
	kids []api.Expr
}

func operations() []operation {
	one, two := []api.Expr{long(1)}, []api.Expr{long(1), long(2)}
	truths := []api.Expr{truth(true), truth(false)}
	who, both := []api.Expr{variable("principal")}, []api.Expr{variable("principal"), variable("resource")}
	l := []operation{
		{api.OSet, "", one}, {api.OSet, "", two}, {api.OSet, "", slices.Repeat(one, 8)}, {api.OGet, "l", who}, {api.OHas, "l", who},
		{api.OHolds, "", []api.Expr{node(api.OSet, one...), long(1)}}, {api.OLike, "*", []api.Expr{named(api.OStr, "a")}},
		{api.ONot, "", truths[:1]}, {api.ONeg, "", one}, {api.OIf, "", append(slices.Clone(truths[:1]), two...)},
	}
	for op := api.OMul; op <= api.OOther; op++ {
		l = append(l, operation{op, "", two})
	}
	l = append(l, operation{api.OIn, "", both})
	for _, op := range []int{api.OAnd, api.OOr} {
		l = append(l, operation{op, "", truths})
	}
	return l
}

func (o operation) with(at int, kid api.Expr) operation {
	o.kids = slices.Clone(o.kids)
	o.kids[at] = kid
	return o
}

func (o operation) check(t *testing.T, want api.Errno) {
	t.Helper()
	checkWrong(t, usual(t), usualEnv(), named(o.op, o.s, o.kids...), want)
}

// A kid's error is the whole's, whichever kid it is.
func TestP1101ErrorsOfKids(t *testing.T) {
	seen := map[int]int{}
	for _, o := range operations() {
		seen[o.op]++
		if _, err := types.Of(usual(t), usualEnv(), named(o.op, o.s, o.kids...)); err != api.OK {
			t.Errorf("%d: %v", o.op, err)
		}
		for i := range o.kids {
			o.with(i, wrongName()).check(t, api.ErrName)
			o.with(i, wrongType()).check(t, api.ErrType)
			for k := i + 1; k < len(o.kids); k++ {
				o.with(i, wrongName()).with(k, wrongType()).check(t, api.ErrName)
				o.with(i, wrongType()).with(k, wrongName()).check(t, api.ErrType)
			}
		}
	}
	if len(seen) != api.OIf-api.OSet+1 {
		t.Errorf("%d operations", len(seen))
	}
}

// A kid's error comes ahead of the operation's own, though that is of a kid to the left of it.
func TestP1101KidsAheadOfTheirOperation(t *testing.T) {
	for _, o := range operations() {
		for i := range o.kids {
			// No operation of more than one kid allows a set of texts in this place.
			bad := o.with(i, node(api.OSet, named(api.OStr, "x")))
			if len(o.kids) > 1 {
				bad.check(t, api.ErrType)
			}
			for k := range o.kids {
				if k != i {
					bad.with(k, wrongName()).check(t, api.ErrName)
				}
			}
		}
	}
	checkWrongs(t, api.ErrName, `1 + D::"x".y`, `true + D::""`, `D::"" + true`, `[1, true, D::""]`, `[[1], D::""]`, `1.contains(D::"")`, `1 in D::""`, `1 && D::""`, `if 1 then D::"" else 1`, `if 1 then 2 else D::""`, `if true then 1 else D::""`, `1 == D::""`, `principal.l != D::""`)
	checkWrongs(t, api.ErrType, `(1 + true).x`, `(!1) has x`, `[1 + true, D::""]`, `(1 + true) + D::""`, `(principal in 1) && D::"".x`, `if 1 + true then D::"" else D::""`)
}

// Of two errors of OGet's own: a kid that is no entity has no fields.
func TestP1101GetOfNoEntity(t *testing.T) {
	checkWrongs(t, api.ErrType, `1.x`, `1.l`, `true.b`, `"a".s`, `[1].x`, `resource.u.l`, `[principal].l`)
	checkWrongs(t, api.ErrName, `principal.x`, `action.x`, `principal.x.y`, `action.x.y`, `D::"".l`)
}
