package above_test

import (
	"math/rand"
	"slices"
	"testing"

	"chancel/above"
	"chancel/api"
)

// few are uids, not all of which need be there; some are no uids of the language.
func few() []api.Uid {
	var l []api.Uid
	for _, kind := range []string{"A", "AA", "a", ""} {
		for _, id := range []string{"", "A", "b", "é", "\xff"} {
			l = append(l, api.Uid{Type: kind, Id: id})
		}
	}
	return l
}

func pick(r *rand.Rand) api.Uid { return few()[r.Intn(len(few()))] }

// randomWorld has up to count entities, with up to most parents each.
func randomWorld(r *rand.Rand, count, most int) []api.Entity {
	all := few()
	r.Shuffle(len(all), func(i, k int) { all[i], all[k] = all[k], all[i] })
	var l []api.Entity
	for _, u := range all[:r.Intn(count+1)] {
		e := api.Entity{U: u}
		for range r.Intn(most + 1) {
			e.Parents = append(e.Parents, pick(r))
		}
		l = append(l, e)
	}
	slices.SortFunc(l, func(a, b api.Entity) int { return order(a.U, b.U) })
	return l
}

type pair struct{ u, x api.Uid }

// steps tells who is above whom by one step or more: those that one after the other may stand between them.
func steps(l []api.Entity) map[pair]bool {
	all := map[pair]bool{}
	for _, e := range l {
		for _, p := range e.Parents {
			all[pair{e.U, p}] = true
		}
	}
	for _, by := range few() {
		for _, u := range few() {
			for _, x := range few() {
				if all[pair{u, by}] && all[pair{by, x}] {
					all[pair{u, x}] = true
				}
			}
		}
	}
	return all
}

// rising tells those of which is holds.
func rising(is func(u api.Uid) bool) string {
	var l []api.Uid
	for _, u := range few() {
		if is(u) {
			l = append(l, u)
		}
	}
	slices.SortFunc(l, order)
	return dump(l)
}

func isThere(l []api.Entity, u api.Uid) bool {
	return slices.ContainsFunc(l, func(e api.Entity) bool { return e.U == u })
}

// withoutParents is l, where u has none.
func withoutParents(l []api.Entity, u api.Uid) []api.Entity {
	l = slices.Clone(l)
	for i := range l {
		if l[i].U == u {
			l[i].Parents = nil
		}
	}
	return l
}

func TestP901Random(t *testing.T) {
	r := rand.New(rand.NewSource(1))
	for range 300 {
		l := randomWorld(r, 16, 1+r.Intn(4))
		up := steps(l)
		for _, u := range few() {
			want := rising(func(x api.Uid) bool { return up[pair{u, x}] })
			if got := dump(above.Above(l, u)); got != want {
				t.Fatalf("Above of %v: %s; want %s; %v", u, got, want, l)
			}
			want = rising(func(x api.Uid) bool { return x != u && isThere(l, x) && up[pair{x, u}] })
			if got := dump(above.Below(l, u)); got != want {
				t.Fatalf("Below of %v: %s; want %s; %v", u, got, want, l)
			}
			for _, x := range few() {
				if above.In(l, u, x) != (u == x || up[pair{u, x}]) {
					t.Fatalf("In of %v in %v: %v", u, x, l)
				}
			}
		}
	}
}

func TestP901RandomCircles(t *testing.T) {
	r := rand.New(rand.NewSource(2))
	for range 1000 {
		l, u := randomWorld(r, 16, 1+r.Intn(3)), pick(r)
		up := steps(withoutParents(l, u))
		var parents []api.Uid
		want := false
		for range r.Intn(5) {
			p := pick(r)
			parents = append(parents, p)
			want = want || p == u || up[pair{p, u}]
		}
		if above.Circle(l, u, parents) != want {
			t.Fatalf("Circle of %v under %v: want %v; %v", u, parents, want, l)
		}
		// There is one just where u, with these parents, is above itself.
		if e := (api.Entity{U: u, Parents: parents}); isThere(l, u) {
			l = slices.Clone(l)
			l[slices.IndexFunc(l, func(x api.Entity) bool { return x.U == u })] = e
			if slices.Contains(above.Above(l, u), u) != want {
				t.Fatalf("Above of %v under %v: want it in %v", u, parents, want)
			}
		}
	}
}

func TestP902InGoesOn(t *testing.T) {
	r := rand.New(rand.NewSource(3))
	for range 100 {
		l := randomWorld(r, 16, 3)
		for _, a := range few() {
			for _, b := range few() {
				if !above.In(l, a, b) {
					continue
				}
				for _, c := range few() {
					if above.In(l, b, c) && !above.In(l, a, c) {
						t.Fatalf("%v is in %v, that in %v; %v", a, b, c, l)
					}
				}
			}
		}
	}
}

func TestP3TheSameAgain(t *testing.T) {
	r := rand.New(rand.NewSource(4))
	for range 50 {
		l, u, x, parents := randomWorld(r, 16, 4), pick(r), pick(r), []api.Uid{pick(r), pick(r)}
		all := map[string]bool{}
		for range 20 {
			all[dump([]any{above.In(l, u, x), above.Above(l, u), above.Below(l, u), above.Circle(l, u, parents)})] = true
		}
		if len(all) != 1 {
			t.Fatalf("%d answers of %v: %v", len(all), u, l)
		}
	}
}

// long is a row of many entities: the two behind each one are its parents, one of them twice, and behind the last one the first one comes again.
func long(count int) []api.Entity {
	at := func(i int) api.Uid { return uid(string(rune(0x10000 + i%count))) }
	var l []api.Entity
	for i := range count {
		l = append(l, api.Entity{U: at(i), Parents: []api.Uid{at(i + 2), at(i + 1), at(i + 2)}})
	}
	return l
}

// The ways up are too many to be gone one by one; the uids are not.
func TestP1ManyWays(t *testing.T) {
	const count = 100000
	l := long(count)
	first, last := l[0].U, l[count-1].U
	up, down := above.Above(l, first), above.Below(l, first)
	if len(up) != count || len(down) != count-1 || !slices.IsSortedFunc(up, order) || !slices.IsSortedFunc(down, order) {
		t.Errorf("%d above, %d below", len(up), len(down))
	}
	if !above.In(l, first, last) || !above.In(l, last, first) || above.In(l, first, uid("none")) {
		t.Error("In")
	}
	if !above.Circle(l, first, []api.Uid{last}) || above.Circle(l, uid("none"), up) {
		t.Error("Circle")
	}
}

// Parents may be many more than Check allows, and twice.
func TestP1ManyParents(t *testing.T) {
	var parents []api.Uid
	for i := range 100000 {
		parents = append(parents, api.Uid{Type: "P", Id: string(rune(0x10000 + i%50000))})
	}
	l := []api.Entity{{U: uid("A:a"), Parents: parents}, {U: uid("B:b"), Parents: parents[:1]}}
	if up := above.Above(l, uid("A:a")); len(up) != 50000 || !slices.IsSortedFunc(up, order) {
		t.Errorf("%d above", len(up))
	}
	if got := names(above.Below(l, parents[0])); got != "A:a B:b" {
		t.Errorf("Below: %s", got)
	}
	if above.Circle(l, uid("A:a"), parents) || !above.Circle(l, parents[7], []api.Uid{uid("B:b"), uid("A:a")}) {
		t.Error("Circle")
	}
}
