package value_test

import (
	"slices"
	"testing"

	"chancel/api"
	"chancel/value"
)

func TestP302SameAndLessOverEveryPair(t *testing.T) {
	l := rising()
	for i, a := range l {
		for k, b := range l {
			if got := value.Less(a, b); got != (i < k) {
				t.Errorf("Less(%#v, %#v): %v", a, b, got)
			}
			if got := value.Same(a, b); got != (i == k) {
				t.Errorf("Same(%#v, %#v): %v", a, b, got)
			}
		}
	}
}

func TestP302KindsComeFirst(t *testing.T) {
	// The greatest of each kind against the least of the next one.
	l := []api.Value{truth(true), long(-1 << 63), long(1<<63 - 1), str(""), str("\U0010ffff"), uid("A", ""), uid("zzzzzzzzzzzz", "\U0010ffff"), set()}
	for i, a := range l {
		for k, b := range l {
			if value.Less(a, b) != (i < k) || value.Same(a, b) != (i == k) {
				t.Errorf("%#v, %#v: Less %v, Same %v", a, b, value.Less(a, b), value.Same(a, b))
			}
		}
	}
}

func TestP302LessUid(t *testing.T) {
	l := []api.Uid{{Type: "A", Id: ""}, {Type: "A", Id: "A"}, {Type: "A", Id: "a"}, {Type: "A", Id: "aa"}, {Type: "A", Id: "b"}, {Type: "A", Id: "é"}, {Type: "AA", Id: ""}, {Type: "Aa", Id: "a"}, {Type: "B", Id: "A"}, {Type: "_", Id: ""}, {Type: "a", Id: ""}, {Type: "a", Id: "A"}, {Type: "aA", Id: ""}}
	for i, a := range l {
		for k, b := range l {
			if got := value.LessUid(a, b); got != (i < k) {
				t.Errorf("LessUid(%v, %v): %v", a, b, got)
			}
			if got := value.Less(uid(a.Type, a.Id), uid(b.Type, b.Id)); got != (i < k) {
				t.Errorf("Less of uids %v, %v: %v", a, b, got)
			}
		}
	}
}

func TestP302NoListIsAnEmptyOne(t *testing.T) {
	none, empty := api.Value{Kind: api.VSet}, api.Value{Kind: api.VSet, L: []api.Value{}}
	if !value.Same(none, empty) || !value.Same(empty, none) || value.Less(none, empty) || value.Less(empty, none) {
		t.Error("no list and an empty one are not the same")
	}
	if value.Text(none) != "[]" || value.Text(empty) != "[]" {
		t.Error("no list and an empty one are not written the same")
	}
}

func TestP304LessIsAnOrder(t *testing.T) {
	l := rising()
	for _, a := range l {
		if value.Less(a, a) || !value.Same(a, a) {
			t.Errorf("%#v is not the same as itself", a)
		}
		for _, b := range l {
			ways := 0
			for _, is := range []bool{value.Less(a, b), value.Less(b, a), value.Same(a, b)} {
				if is {
					ways++
				}
			}
			if ways != 1 || value.Same(a, b) != value.Same(b, a) {
				t.Errorf("%#v, %#v: not one of less, more, the same", a, b)
			}
			for _, c := range l {
				if value.Less(a, b) && value.Less(b, c) && !value.Less(a, c) {
					t.Fatalf("%#v, %#v, %#v: no order", a, b, c)
				}
			}
		}
	}
}

// permutations calls f with l in every order.
func permutations(l []api.Value, f func(l []api.Value)) {
	if len(l) == 0 {
		f(nil)
		return
	}
	for i := range l {
		rest := slices.Delete(slices.Clone(l), i, i+1)
		permutations(rest, func(tail []api.Value) {
			f(append([]api.Value{l[i]}, tail...))
		})
	}
}

func TestP304SetsOfTheSameElementsAreTheSame(t *testing.T) {
	for _, l := range [][]api.Value{
		{truth(false), truth(true)},
		{long(-2), long(-1), long(0), long(10)},
		{str(""), str("10"), str("9"), str("é")},
		{uid("A", "b"), uid("AA", "a"), uid("B", ""), uid("B", "a")},
	} {
		want := set(l...)
		permutations(append(slices.Clone(l), l[0], l[len(l)-1]), func(in []api.Value) {
			s, err := value.Set(in...)
			if err != api.OK || !value.Same(s, want) || value.Less(s, want) || value.Less(want, s) || value.Text(s) != value.Text(want) {
				t.Fatalf("Set(%#v): %#v, %v", in, s, err)
			}
		})
	}
}
