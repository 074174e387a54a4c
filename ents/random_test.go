package ents_test

import (
	"math/rand"
	"slices"
	"strings"
	"testing"

	"chancel/api"
	"chancel/ents"
	"chancel/lex"
	"chancel/value"
)

// rowOfAll tells what a map of entities is as a row, by the library.
func rowOfAll(all map[api.Uid]api.Entity) []api.Entity {
	var l []api.Entity
	for _, e := range all {
		l = append(l, e)
	}
	slices.SortFunc(l, func(a, b api.Entity) int {
		if c := strings.Compare(a.U.Type, b.U.Type); c != 0 {
			return c
		}
		return strings.Compare(a.U.Id, b.U.Id)
	})
	return l
}

// What was put is found, what was dropped is not, all others are as they were; and so is the row that it was done to.
func TestP803Random(t *testing.T) {
	r := rand.New(rand.NewSource(2))
	all := map[api.Uid]api.Entity{}
	var l []api.Entity
	for range 500 {
		before, old := whole(l), l
		if e := randomEntity(r); r.Intn(3) > 0 {
			l = ents.Put(l, e)
			all[e.U] = e
			checkFound(t, l, e)
		} else {
			l = ents.Drop(l, e.U)
			delete(all, e.U)
			checkNotFound(t, l, e.U)
		}
		checkRow(t, "the row", l, rowOfAll(all))
		if whole(old) != before {
			t.Fatal("the row ahead is changed")
		}
		u := randomUid(r)
		if e, there := all[u]; there {
			checkFound(t, l, e)
		} else {
			checkNotFound(t, l, u)
		}
		if t.Failed() {
			return
		}
		if r.Intn(40) == 0 {
			all, l = map[api.Uid]api.Entity{}, nil
		}
	}
}

// A row that may be goes on to be one, as long as there is room.
func TestP803WhatMayBeGoesOn(t *testing.T) {
	r := rand.New(rand.NewSource(3))
	var l []api.Entity
	for range 500 {
		u := risingUids()[r.Intn(len(risingUids()))]
		if r.Intn(2) == 0 {
			l = ents.Put(l, full(u))
		} else {
			l = ents.Drop(l, u)
		}
		check(t, "a row", l, api.OK)
	}
}

// plainCheck asks what the promise says, word by word, by lists of all faults in its order.
func plainCheck(l []api.Entity) api.Errno {
	if len(l) > 16 {
		return api.ErrMany
	}
	var found []api.Errno
	tell := func(is bool, err api.Errno) {
		if is {
			found = append(found, err)
		}
	}
	ofUid := func(u api.Uid) {
		err := value.Check(api.Value{Kind: api.VUid, U: u})
		tell(err != api.OK, err)
	}
	above := func(a, b api.Uid) bool { return a.Type > b.Type || a.Type == b.Type && a.Id > b.Id }
	for i, e := range l {
		ofUid(e.U)
		tell(len(e.Parents) > 4, api.ErrMany)
		for k, p := range e.Parents {
			ofUid(p)
			tell(k > 0 && !above(p, e.Parents[max(k-1, 0)]), api.ErrArg)
		}
		tell(len(e.Attrs) > 5, api.ErrMany)
		for k, a := range e.Attrs {
			tell(!lex.Ident(a.Name), api.ErrName)
			err := value.Check(a.V)
			tell(err != api.OK, err)
			tell(k > 0 && a.Name <= e.Attrs[max(k-1, 0)].Name, api.ErrArg)
		}
		tell(i > 0 && !above(e.U, l[max(i-1, 0)].U), api.ErrArg)
	}
	return append(found, api.OK)[0]
}

func TestP801Random(t *testing.T) {
	r := rand.New(rand.NewSource(4))
	for range 20000 {
		l := rowOf("a", "b", "c", "d")[:1+r.Intn(4)]
		for range r.Intn(4) {
			spoilAt(r, &l[r.Intn(len(l))])
		}
		want := plainCheck(l)
		if err := ents.Check(l); err != want {
			t.Fatalf("%v; want %v: %s", err, want, dump(l))
		}
	}
}

// spoilAt changes one thing of an entity, mostly to what may not be.
func spoilAt(r *rand.Rand, e *api.Entity) {
	switch r.Intn(6) {
	case 0:
		e.U = randomUid(r)
	case 1:
		e.Parents = append(e.Parents[:r.Intn(len(e.Parents)+1)], randomUid(r))
	case 2:
		e.Attrs = append(e.Attrs[:r.Intn(len(e.Attrs)+1)], attr(randomUid(r).Id, long(1)))
	case 3:
		e.Attrs = append(e.Attrs, attr("p", randomValue(r, 1)))
	case 4:
		e.Parents = append(e.Parents, uid("O", randomUid(r).Id))
	case 5:
		if len(e.Attrs) > 0 {
			e.Attrs[r.Intn(len(e.Attrs))].V = randomValue(r, 2)
		}
	}
}
