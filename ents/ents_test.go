package ents_test

import (
	"slices"
	"testing"

	"chancel/api"
	"chancel/ents"
)

// gapped tells a row, and uids that are not in it: ahead of all, in every gap, behind all.
func gapped() ([]api.Entity, []api.Uid) {
	var l []api.Entity
	var gaps []api.Uid
	for i, u := range append(risingUids(), uid("\xff", "\xff")) {
		if i%2 == 0 {
			gaps = append(gaps, u)
		} else {
			l = append(l, full(u))
		}
	}
	return l, gaps
}

func TestP802Find(t *testing.T) {
	l, gaps := gapped()
	for n := range len(l) + 1 {
		for i, e := range l {
			e.Attrs = []api.Attr{attr("at", long(int64(i)))}
			l[i] = e
			if i < n {
				checkFound(t, l[:n], e)
			} else {
				checkNotFound(t, l[:n], e.U)
			}
		}
		for _, u := range append(gaps, uid("", ""), uid("A", "c"), uid("Aa", "a")) {
			checkNotFound(t, l[:n], u)
		}
	}
	checkNotFound(t, nil, uid("A", "a"))
	checkNotFound(t, nil, api.Uid{})
	checkNotFound(t, []api.Entity{}, uid("A", "a"))
}

// A uid is both its type and its id.
func TestP802FindByTypeAndId(t *testing.T) {
	l := []api.Entity{full(uid("A", "b")), full(uid("B", "a"))}
	for _, u := range []api.Uid{uid("A", "a"), uid("B", "b"), uid("b", "A"), uid("Ab", ""), uid("", "Ab"), uid("A", "B"), uid("A", "b ")} {
		checkNotFound(t, l, u)
	}
}

func TestP802Put(t *testing.T) {
	l, gaps := gapped()
	for n := range len(l) + 1 {
		for _, u := range gaps {
			at := 0
			for at < n && (l[at].U.Type < u.Type || l[at].U.Type == u.Type && l[at].U.Id < u.Id) {
				at++
			}
			e := odd(u)
			checkRow(t, "Put", ents.Put(l[:n], e), slices.Insert(slices.Clone(l[:n]), at, e))
		}
	}
	checkRow(t, "Put in nil", ents.Put(nil, full(uid("A", "a"))), rowOf("a"))
	checkRow(t, "Put in none", ents.Put([]api.Entity{}, full(uid("A", "a"))), rowOf("a"))
	checkRow(t, "Put of a zero entity", ents.Put(rowOf("a"), api.Entity{}), append([]api.Entity{{}}, rowOf("a")...))
	checkRow(t, "Put of a zero entity in its place", ents.Put(make([]api.Entity, 1), api.Entity{}), make([]api.Entity, 1))
}

func TestP802PutInThePlace(t *testing.T) {
	for n := 1; n < 6; n++ {
		for at := range n {
			for _, e := range []api.Entity{{U: many(n)[at].U}, odd(many(n)[at].U), many(n)[at]} {
				want := many(n)
				want[at] = e
				checkRow(t, "Put in the place", ents.Put(many(n), e), want)
			}
		}
	}
}

// Put names no bound: who asks for one calls Check.
func TestP802PutBeyondTheBound(t *testing.T) {
	var l []api.Entity
	for i := range 40 {
		l = ents.Put(l, many(40)[39-i])
	}
	checkRow(t, "40", l, many(40))
}

func TestP802Drop(t *testing.T) {
	for n := range 6 {
		for at := range n {
			checkRow(t, "Drop", ents.Drop(many(n), many(n)[at].U), slices.Delete(many(n), at, at+1))
		}
	}
	l, gaps := gapped()
	for n := range len(l) + 1 {
		for _, u := range append(gaps, uid("", ""), uid("B", "b")) {
			checkRow(t, "Drop of none", ents.Drop(l[:n], u), l[:n])
		}
	}
	checkRow(t, "Drop in nil", ents.Drop(nil, uid("A", "a")), nil)
	checkRow(t, "Drop of a zero uid in nil", ents.Drop(nil, api.Uid{}), nil)
	checkRow(t, "Drop in none", ents.Drop([]api.Entity{}, uid("A", "a")), nil)
	checkRow(t, "Drop of a zero entity", ents.Drop([]api.Entity{{}, full(uid("A", "a"))}, api.Uid{}), rowOf("a"))
}

// Whatever parents and attributes are, they are answered as they are.
func TestP802OddEntities(t *testing.T) {
	l := []api.Entity{odd(uid("", "")), odd(uid("A", "a")), odd(uid("A", "b")), odd(uid("\xff", "\xff"))}
	for i, e := range l {
		checkFound(t, l, e)
		less := slices.Delete(slices.Clone(l), i, i+1)
		checkRow(t, "Drop", ents.Drop(l, e.U), less)
		checkRow(t, "Put", ents.Put(less, e), l)
		checkNotFound(t, less, e.U)
	}
}

func checkGet(t *testing.T, e api.Entity, name string, want api.Value) {
	t.Helper()
	if v, is := ents.Get(e, name); !is || dump(v) != dump(want) {
		t.Errorf("Get of %q: %v, %.400s; want %.400s", name, is, dump(v), dump(want))
	}
}

func checkNoGet(t *testing.T, e api.Entity, name string) {
	t.Helper()
	if v, is := ents.Get(e, name); is || dump(v) != dump(api.Value{}) {
		t.Errorf("Get of %q: %v, %.400s", name, is, dump(v))
	}
}

func TestP802Get(t *testing.T) {
	e := full(uid("A", "a"))
	for _, a := range e.Attrs {
		checkGet(t, e, a.Name, a.V)
	}
	for _, name := range []string{"", "a", "kk", "K", "k ", "z", "A", "\xff", "é"} {
		checkNoGet(t, e, name)
	}
}

func TestP802GetTheFirst(t *testing.T) {
	e := api.Entity{Attrs: []api.Attr{attr("b", long(0)), attr("a", long(1)), attr("b", long(2)), attr("a", str("3")), attr("", long(4)), attr("", long(5))}}
	checkGet(t, e, "a", long(1))
	checkGet(t, e, "b", long(0))
	checkGet(t, e, "", long(4))
	two := odd(uid("A", "a"))
	checkGet(t, two, "a", two.Attrs[1].V)
	checkGet(t, two, "z", two.Attrs[0].V)
	checkGet(t, two, "\xff", deep(5))
	// A value of nothing is there all the same.
	checkGet(t, api.Entity{Attrs: []api.Attr{{}}}, "", api.Value{})
	checkGet(t, api.Entity{Attrs: []api.Attr{{Name: "a"}, attr("a", long(1))}}, "a", api.Value{})
}

// Trees may be 100 deep.
func TestP802DeepValues(t *testing.T) {
	e := api.Entity{U: uid("A", "a"), Attrs: []api.Attr{attr("a", deep(100))}}
	l := ents.Put(nil, e)
	checkRow(t, "Put", l, []api.Entity{e})
	checkFound(t, l, e)
	checkGet(t, e, "a", deep(100))
	checkRow(t, "Drop", ents.Drop(l, api.Uid{}), l)
}

func TestExample1(t *testing.T) {
	for _, e := range []api.Entity{{}, {U: uid("A", "a")}, {U: uid("A", "a"), Attrs: []api.Attr{}}, {Parents: []api.Uid{uid("a", "a")}}} {
		for _, name := range []string{"", "a", "A"} {
			checkNoGet(t, e, name)
		}
	}
}
