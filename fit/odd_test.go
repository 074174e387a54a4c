package fit_test

import (
	"fmt"
	"math/rand"
	"slices"
	"testing"

	"chancel/api"
	"chancel/fit"
)

// endless is a set that holds itself.
func endless() api.Value {
	v := api.Value{Kind: api.VSet, L: make([]api.Value, 2)}
	v.L[0], v.L[1] = v, v
	return v
}

// oddValues are such as value.Check refuses.
func oddValues() []api.Value {
	deep := set(long(1))
	for range 99 {
		deep = set(deep, long(1))
	}
	return []api.Value{
		{}, {Kind: -1}, {Kind: 6, L: []api.Value{long(1)}}, {Kind: 1 << 40}, endless(), deep, set(set()), set(api.Value{}), set(long(1), truth(true)), set(long(2), long(1), long(1)),
		{Kind: api.VLong, B: true, N: 1, S: "\xff", U: uid("A", "a"), L: []api.Value{long(1)}}, str("\xff"), ref("", ""), ref("\xff", "\xff"),
	}
}

// oddTypes are such as schema.Check refuses, and the usual ones.
func oddTypes() []api.Type {
	var l []api.Type
	for _, kind := range []int{-1, 0, 1, 2, 3, 4, 5, 6, 1 << 40} {
		for _, of := range []int{-1, 0, 1, 2, 3, 4, 5, 6} {
			for _, name := range []string{"", "A", "\xff"} {
				l = append(l, api.Type{Kind: kind, Of: of, Name: name})
			}
		}
	}
	return l
}

func TestP1OddValues(t *testing.T) {
	all := oddValues()
	for _, x := range samples() {
		all = append(all, x.v)
	}
	for _, of := range oddTypes() {
		for _, v := range all {
			for _, s := range []api.Schema{{}, usual(t), oddSchema()} {
				if fit.Value(s, of, v) != fit.Value(s, of, v) {
					t.Fatalf("%+v: another answer", of)
				}
			}
		}
	}
}

// oddSchema is one that schema.Check refuses in many ways.
func oddSchema() api.Schema {
	k := api.Kind{Name: "A", Parents: []string{"X", "A", "", "\xff", "A"}, Fields: []api.Field{{Name: "x"}, {Name: "b", Type: typeOf("Bool")}, {Name: "x", Type: api.Type{Kind: api.TSet, Of: api.TSet}}, {}, {Name: "\xff", Type: api.Type{Kind: 9}}}}
	return api.Schema{
		Kinds:   []api.Kind{k, {}, {Name: "Action", Parents: []string{"Action"}}, {Name: "\xff", Fields: k.Fields}, k, {Name: "B", Parents: k.Parents, Fields: k.Fields[:1]}},
		Actions: []api.Action{{}, {Name: "a", Principals: []string{"X"}}, {Name: "a"}},
	}
}

func randomOdd(r *rand.Rand, values []api.Value) api.Entity {
	kinds, names := []string{"A", "B", "Action", "", "\xff", "X"}, []string{"", "x", "b", "\xff", "l"}
	some := func() api.Uid { return uid(kinds[r.Intn(len(kinds))], names[r.Intn(len(names))]) }
	e := api.Entity{U: some()}
	for range r.Intn(4) {
		e.Parents = append(e.Parents, some())
	}
	for range r.Intn(6) {
		e.Attrs = append(e.Attrs, attr(names[r.Intn(len(names))], values[r.Intn(len(values))]))
	}
	return e
}

// Whatever schema, entities and entity: each call ends, and answers the same again.
func TestP1OddEntities(t *testing.T) {
	r, values := rand.New(rand.NewSource(1)), oddValues()
	for range 5000 {
		var l []api.Entity
		for range r.Intn(8) {
			l = append(l, randomOdd(r, values))
		}
		e := randomOdd(r, values)
		for _, s := range []api.Schema{{}, usual(t), oddSchema()} {
			if fit.Entity(s, l, e) != fit.Entity(s, l, e) || fit.All(s, l) != fit.All(s, l) {
				t.Fatal("another answer")
			}
			checkEach(t, s, l)
		}
	}
}

// Where attributes and fields do not stand by their names they are still told by them; one of two of a name is one more.
func TestP1202WhateverTheOrderOfNames(t *testing.T) {
	s := usual(t)
	for _, k := range s.Kinds {
		slices.Reverse(k.Fields)
	}
	e := entity(t, `A::"q"`+fineA)
	checkEntity(t, s, nil, e, api.OK)
	slices.Reverse(e.Attrs)
	checkEntity(t, s, nil, e, api.OK)
	checkEntity(t, usual(t), nil, e, api.OK)
	e.Attrs[0].V = long(1)
	checkEntity(t, usual(t), nil, e, api.ErrType)
	e.Attrs[0].Name = e.Attrs[1].Name
	checkEntity(t, usual(t), nil, e, api.ErrName)
	e.Attrs = append(entity(t, `A::"q"`+fineA).Attrs, attr("b", truth(true)))
	checkEntity(t, usual(t), nil, e, api.ErrName)
}

// More of everything than there may be.
func TestP1Many(t *testing.T) {
	const many = 30000
	e, k := entity(t, `A::"q" {};`), api.Kind{Name: "A", Parents: []string{"A"}}
	for i := range many {
		name := fmt.Sprintf("n%d", i*7919%many)
		k.Fields = append(k.Fields, api.Field{Name: name, Type: typeOf("Set Long")})
		e.Attrs = append(e.Attrs, attr(name, set(long(1), long(int64(i+2)))))
		e.Parents = append(e.Parents, uid("A", "q"))
	}
	s, l := api.Schema{Kinds: []api.Kind{k}}, []api.Entity{e}
	checkLast := func(want api.Errno) {
		t.Helper()
		if got := fit.All(s, l); got != want {
			t.Errorf("%v; want %v", got, want)
		}
	}
	checkLast(api.ErrCircle)
	l[0].Parents[many-1].Id = "z"
	checkLast(api.ErrGone)
	l[0].Attrs[many-1].V = set(long(1), truth(true))
	checkLast(api.ErrType)
	l[0].Attrs[many-1].Name = "n"
	checkLast(api.ErrName)
}
