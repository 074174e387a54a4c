package ents_test

import (
	"fmt"
	"math/rand"
	"strings"
	"testing"

	"chancel/api"
	"chancel/ents"
)

func uid(t, id string) api.Uid { return api.Uid{Type: t, Id: id} }

func truth(b bool) api.Value { return api.Value{Kind: api.VBool, B: b} }

func long(n int64) api.Value { return api.Value{Kind: api.VLong, N: n} }

func str(s string) api.Value { return api.Value{Kind: api.VStr, S: s} }

func ref(t, id string) api.Value { return api.Value{Kind: api.VUid, U: uid(t, id)} }

func set(l ...api.Value) api.Value { return api.Value{Kind: api.VSet, L: l} }

func attr(name string, v api.Value) api.Attr { return api.Attr{Name: name, V: v} }

// full is an entity with as many parents and attributes as there may be, a value of every kind among them.
func full(u api.Uid) api.Entity {
	return api.Entity{
		U:       u,
		Parents: []api.Uid{uid("K", "a"), uid("L", "a"), uid("M", "a"), uid("N", "a")},
		Attrs:   []api.Attr{attr("k", truth(true)), attr("l", long(-7)), attr("m", str("x")), attr("n", ref("A", "b")), attr("o", set(str("a"), str("b")))},
	}
}

// rowOf tells full entities of the type A, of these ids.
func rowOf(ids ...string) []api.Entity {
	var l []api.Entity
	for _, id := range ids {
		l = append(l, full(uid("A", id)))
	}
	return l
}

// many tells n entities, rising.
func many(n int) []api.Entity {
	var ids []string
	for i := range n {
		ids = append(ids, fmt.Sprintf("%03d", i))
	}
	return rowOf(ids...)
}

// deep is a value of so many levels; sets may not stand in sets, but what is said of the rest holds of such, too.
func deep(levels int) api.Value {
	v := long(1)
	for range levels - 1 {
		v = set(v, long(2))
	}
	return v
}

// odd is an entity whose parents and attributes are such as Check refuses in every way: too many, in no order, twice, of no names, with values that may not be.
func odd(u api.Uid) api.Entity {
	stray := api.Value{Kind: 9, B: true, N: -5, S: "\xff", U: uid("1", "\xc3"), L: []api.Value{long(2), str("a"), {}, set(long(1), set())}}
	return api.Entity{
		U:       u,
		Parents: []api.Uid{uid("B", "b"), uid("A", "a"), u, uid("B", "b"), uid("", "\xff"), uid("A", strings.Repeat("é", 40))},
		Attrs: []api.Attr{
			attr("z", stray), attr("a", set(stray, stray)), attr("a", long(2)), attr("", api.Value{}), attr("\xff", deep(5)),
			attr("m", set(long(2), str("1"), long(2))), attr("z", api.Value{Kind: api.VLong, N: 1, L: []api.Value{long(3)}}), attr(strings.Repeat("n", 20), str("\xff")),
		},
	}
}

// dump tells all fields of whatever there is; no list and an empty one are the same.
func dump(x any) string {
	return strings.ReplaceAll(fmt.Sprintf("%#v", x), "(nil)", "{}")
}

func ids(l []api.Entity) string {
	var all []string
	for _, e := range l {
		all = append(all, e.U.Type+"::"+e.U.Id)
	}
	return strings.Join(all, " ")
}

// checkRow tells whether a row is the one that is wanted, in all fields.
func checkRow(t *testing.T, what string, got, want []api.Entity) {
	t.Helper()
	if len(got)+len(want) > 0 && dump(got) != dump(want) {
		t.Errorf("%s: %s; want %s\n%.400s\n%.400s", what, ids(got), ids(want), dump(got), dump(want))
	}
}

// checkFound tells whether e is found as it is.
func checkFound(t *testing.T, l []api.Entity, e api.Entity) {
	t.Helper()
	if got, is := ents.Find(l, e.U); !is || dump(got) != dump(e) {
		t.Errorf("Find of %v in %s: %v, %.400s; want %.400s", e.U, ids(l), is, dump(got), dump(e))
	}
}

// checkNotFound tells whether there is none of that uid, and nothing beside the false (P4).
func checkNotFound(t *testing.T, l []api.Entity, u api.Uid) {
	t.Helper()
	if got, is := ents.Find(l, u); is || dump(got) != dump(api.Entity{}) {
		t.Errorf("Find of %v in %s: %v, %.400s", u, ids(l), is, dump(got))
	}
}

func randomUid(r *rand.Rand) api.Uid {
	texts := []string{"", "A", "AA", "B", "a", "b", "\x00", "é", "\xff"}
	return uid(texts[r.Intn(len(texts))], texts[r.Intn(len(texts))])
}

func randomValue(r *rand.Rand, levels int) api.Value {
	v := api.Value{Kind: r.Intn(8) - 1, B: r.Intn(2) == 1, N: int64(r.Intn(3)), S: randomUid(r).Id, U: randomUid(r)}
	if levels > 0 {
		for range r.Intn(4) {
			v.L = append(v.L, randomValue(r, levels-1))
		}
	}
	return v
}

func randomEntity(r *rand.Rand) api.Entity {
	e := api.Entity{U: randomUid(r)}
	for range r.Intn(6) {
		e.Parents = append(e.Parents, randomUid(r))
	}
	for range r.Intn(7) {
		e.Attrs = append(e.Attrs, attr(randomUid(r).Id, randomValue(r, 3)))
	}
	return e
}
