package fit_test

import (
	"slices"
	"testing"

	"chancel/api"
	"chancel/ents"
	"chancel/value"
)

// fault is one that an entity may have, and its error.
type fault struct {
	err  api.Errno
	make func(e *api.Entity)
}

// faults stand in the order of the promise's words; the parents in theirs, which is that of uids.
func faults() []fault {
	parent := func(kind, id string) func(*api.Entity) {
		return func(e *api.Entity) {
			e.Parents = append(e.Parents, uid(kind, id))
			slices.SortFunc(e.Parents, func(a, b api.Uid) int {
				if value.LessUid(a, b) {
					return -1
				}
				return 1
			})
		}
	}
	return []fault{
		{api.ErrName, func(e *api.Entity) { e.U.Type = "Action" }},
		{api.ErrName, func(e *api.Entity) { e.Attrs = e.Attrs[:1] }},
		{api.ErrType, func(e *api.Entity) { e.Attrs[0].V = long(1) }},
		{api.ErrType, parent("L", "there")},
		{api.ErrGone, parent("M", "gone")},
		{api.ErrType, parent("Z", "gone")},
		{api.ErrCircle, parent("M", "below")},
	}
}

const several = `entity L {}; entity M in M, N { b: Bool, l: Long }; entity N {}; entity Z {};`

// Of each choice of faults the first one is told.
func TestP1202TheFirstFault(t *testing.T) {
	l := row(t, `L::"there" {};`, `M::"below" in M::"own" { b: true, l: 1 };`, `M::"own" in L::"there" {};`, `N::"n" {};`)
	all := faults()
	for choice := range 1 << len(all) {
		e := entity(t, `M::"own" { b: true, l: 1 };`)
		want := api.OK
		for i, f := range all {
			if choice>>i&1 == 1 {
				f.make(&e)
				if want == api.OK {
					want = f.err
				}
			}
		}
		if err := ents.Check([]api.Entity{e}); err != api.OK {
			t.Fatalf("%s: %v", dump(e), err)
		}
		checkEntity(t, made(t, several), l, e, want)
	}
}

// All names are asked ahead of the first value, and all values ahead of the first parent.
func TestP1202NamesAheadOfValues(t *testing.T) {
	checkTexts(t, api.ErrName,
		`A::"q" { b: 1, l: true, s: 1, t: 1 };`,
		`A::"q" { b: 1, l: true, s: 1, t: 1, v: 1 };`,
		`A::"q" { a: 1, l: true, s: 1, t: 1, u: 1 };`,
		`A::"q" in C::"c", D::"z" { b: 1 };`,
		`C::"q" { u: 1, v: 1 };`,
	)
	checkTexts(t, api.ErrType,
		`A::"q" in A::"z" { b: true, l: 1, s: "", t: [], u: A::"a" };`,
		`A::"a" in A::"a" { b: 1, l: 1, s: "", t: [], u: B::"x" };`,
		`A::"a" in A::"z" { b: true, l: 1, s: "", t: ["1"], u: B::"x" };`,
	)
	checkTexts(t, api.ErrGone, `A::"a" in A::"a", A::"z"`+fineA, `A::"a" in A::"b", B::"z"`+fineA)
}
