package ents_test

import (
	"slices"
	"strconv"
	"testing"

	"chancel/api"
	"chancel/ents"
)

// spoil writes into all that a list has, its spare room too.
func spoil[T any](l []T, with T) {
	l = l[:cap(l)]
	for i := range l {
		l[i] = with
	}
}

// roomy is a list with the same elements, and room behind them that is written full.
func roomy[T any](l []T, with T) []T {
	all := append(append(make([]T, 0, len(l)+2), l...), with, with)
	return all[:len(l)]
}

func roomyValue(v api.Value) api.Value {
	v.L = roomy(v.L, str("spare"))
	for i, e := range v.L {
		v.L[i] = roomyValue(e)
	}
	return v
}

// roomyEntity has room behind each of its lists.
func roomyEntity(e api.Entity) api.Entity {
	e.Parents = roomy(e.Parents, uid("Spare", "spare"))
	e.Attrs = roomy(e.Attrs, attr("spare", str("spare")))
	for i, a := range e.Attrs {
		e.Attrs[i].V = roomyValue(a.V)
	}
	return e
}

// roomyRow is one of full and odd entities, with room behind each of its lists.
func roomyRow() []api.Entity {
	l := []api.Entity{roomyEntity(full(uid("A", "a"))), roomyEntity(odd(uid("A", "c"))), roomyEntity(full(uid("B", "a")))}
	return roomy(l, api.Entity{U: uid("Spare", "spare")})
}

// wholeValue has all that a value's lists have in their length, the spare room too; so has wholeEntity, of an entity's.
func wholeValue(v api.Value) api.Value {
	v.L = slices.Clone(v.L[:cap(v.L)])
	for i, e := range v.L {
		v.L[i] = wholeValue(e)
	}
	return v
}

func wholeEntity(e api.Entity) api.Entity {
	e.Parents, e.Attrs = slices.Clone(e.Parents[:cap(e.Parents)]), slices.Clone(e.Attrs[:cap(e.Attrs)])
	for i, a := range e.Attrs {
		e.Attrs[i].V = wholeValue(a.V)
	}
	return e
}

func whole(l []api.Entity) string {
	var all []api.Entity
	for _, e := range l[:cap(l)] {
		all = append(all, wholeEntity(e))
	}
	return dump(all)
}

// list is one of an answer's, whatever its elements are: show tells what stands in it by itself, spoil writes into all of it.
type list struct {
	show  func() string
	spoil func()
}

func listOf[T any](l []T, with T, show func(T) string) list {
	return list{
		func() string {
			all := ""
			for _, e := range l[:cap(l)] {
				all += show(e) + " "
			}
			return all
		},
		func() { spoil(l, with) },
	}
}

func listsOfValue(v api.Value) []list {
	l := []list{listOf(v.L, str("spoilt"), func(v api.Value) string { return strconv.Itoa(v.Kind) + v.S })}
	for _, e := range v.L {
		l = append(l, listsOfValue(e)...)
	}
	return l
}

func listsOfEntity(e api.Entity) []list {
	l := []list{
		listOf(e.Parents, uid("Spoilt", "spoilt"), func(u api.Uid) string { return dump(u) }),
		listOf(e.Attrs, attr("spoilt", str("spoilt")), func(a api.Attr) string { return a.Name + strconv.Itoa(a.V.Kind) + a.V.S }),
	}
	for _, a := range e.Attrs {
		l = append(l, listsOfValue(a.V)...)
	}
	return l
}

func listsOfRow(row []api.Entity) []list {
	l := []list{listOf(row, full(uid("Spoilt", "spoilt")), func(e api.Entity) string { return dump(e.U) })}
	for _, e := range row {
		l = append(l, listsOfEntity(e)...)
	}
	return l
}

// calls answer something of a row: its lists.
var calls = map[string]func(l []api.Entity) []list{
	"Find":         func(l []api.Entity) []list { e, _ := ents.Find(l, l[1].U); return listsOfEntity(e) },
	"Find of none": func(l []api.Entity) []list { e, _ := ents.Find(l, uid("A", "b")); return listsOfEntity(e) },
	"Put":          func(l []api.Entity) []list { return listsOfRow(ents.Put(l, withUid(l[1], uid("A", "b")))) },
	"Put ahead":    func(l []api.Entity) []list { return listsOfRow(ents.Put(l, withUid(l[1], uid("A", "")))) },
	"Put behind":   func(l []api.Entity) []list { return listsOfRow(ents.Put(l, withUid(l[1], uid("C", "")))) },
	"Put in place": func(l []api.Entity) []list { return listsOfRow(ents.Put(l, withUid(l[2], l[1].U))) },
	"Put of it":    func(l []api.Entity) []list { return listsOfRow(ents.Put(l, l[1])) },
	"Put in none":  func(l []api.Entity) []list { return listsOfRow(ents.Put(l[:0], l[1])) },
	"Drop":         func(l []api.Entity) []list { return listsOfRow(ents.Drop(l, l[1].U)) },
	"Drop first":   func(l []api.Entity) []list { return listsOfRow(ents.Drop(l, l[0].U)) },
	"Drop last":    func(l []api.Entity) []list { return listsOfRow(ents.Drop(l, l[2].U)) },
	"Drop of none": func(l []api.Entity) []list { return listsOfRow(ents.Drop(l, uid("A", "b"))) },
	"Get":          func(l []api.Entity) []list { v, _ := ents.Get(l[1], "a"); return listsOfValue(v) },
	"Get of stray": func(l []api.Entity) []list { v, _ := ents.Get(l[1], "z"); return listsOfValue(v) },
	"Get of none":  func(l []api.Entity) []list { v, _ := ents.Get(l[1], "none"); return listsOfValue(v) },
	"Check":        func(l []api.Entity) []list { ents.Check(l); return nil },
	"Same":         func(l []api.Entity) []list { ents.Same(l[0], l[2]); ents.Same(l[1], l[1]); return nil },
}

func withUid(e api.Entity, u api.Uid) api.Entity {
	e.U = u
	return e
}

func showAll(l []list) string {
	all := ""
	for _, one := range l {
		all += one.show() + "\n"
	}
	return all
}

// What is handed in is left alone, its spare room too, also where the answer is written into.
func TestP2RowsAreLeftAlone(t *testing.T) {
	for name, call := range calls {
		l := roomyRow()
		before := whole(l)
		answer := call(l)
		if whole(l) != before {
			t.Errorf("%s: changed", name)
		}
		for _, one := range answer {
			one.spoil()
		}
		if whole(l) != before {
			t.Errorf("%s: shared with the answer", name)
		}
	}
}

// An answer keeps as it is, whatever becomes of what was handed in.
func TestP2RowsAreNotKept(t *testing.T) {
	for name, call := range calls {
		l := roomyRow()
		answer := call(l)
		before := showAll(answer)
		for _, one := range listsOfRow(l) {
			one.spoil()
		}
		if showAll(answer) != before {
			t.Errorf("%s: kept", name)
		}
	}
}

// sharing is a row whose entities have their lists in common, and so have values within.
func sharing() []api.Entity {
	e := odd(uid("A", "a"))
	e.Attrs[0].V.L = e.Attrs[1].V.L
	return []api.Entity{e, withUid(e, uid("A", "c")), withUid(e, uid("B", "a"))}
}

// No two lists of an answer share any, not even where those did that were handed in.
func TestP2NoTwoListsShare(t *testing.T) {
	for name, call := range calls {
		for _, row := range [][]api.Entity{roomyRow(), sharing()} {
			count := len(call(row))
			for i := range count {
				answer := call(row)
				answer[i].spoil()
				other := call(row)
				for k := range count {
					if k != i && answer[k].show() != other[k].show() {
						t.Errorf("%s: lists %d and %d share", name, i, k)
					}
				}
			}
		}
	}
}

// Rows that do not stand by their uids, or have two of one, are answered somehow; they are left alone, too (P8).
func TestP1OddRows(t *testing.T) {
	uids := []api.Uid{uid("A", "a"), uid("", ""), uid("\xff", "\xff"), uid("A", "\x00")}
	for _, a := range uids {
		for _, b := range uids {
			for _, c := range uids {
				l := []api.Entity{roomyEntity(full(a)), roomyEntity(odd(b)), {U: c}}
				before := whole(l)
				for _, u := range uids {
					ents.Find(l, u)
					ents.Put(l, full(u))
					ents.Drop(l, u)
				}
				ents.Check(l)
				if whole(l) != before {
					t.Fatalf("%v, %v, %v: changed", a, b, c)
				}
			}
		}
	}
}
