package value_test

import (
	"reflect"
	"slices"
	"testing"

	"chancel/api"
	"chancel/value"
)

func checkSet(t *testing.T, in, want []api.Value) {
	t.Helper()
	s, err := value.Set(in...)
	if err != api.OK || !sameInAll(s, set(want...)) {
		t.Errorf("Set(%#v): %#v, %v; want %#v", in, s, err, want)
	}
	if err := value.Check(s); err != api.OK {
		t.Errorf("Check of Set(%#v): %v", in, err)
	}
}

// sameInAll holds all fields against each other, lists aside that are empty.
func sameInAll(a, b api.Value) bool {
	if len(a.L) == 0 && len(b.L) == 0 {
		a.L, b.L = nil, nil
	}
	return reflect.DeepEqual(a, b)
}

func checkNoSet(t *testing.T, in []api.Value, want api.Errno) {
	t.Helper()
	if s, err := value.Set(in...); err != want || !reflect.DeepEqual(s, api.Value{}) {
		t.Errorf("Set(%#v): %#v, %v; want %v", in, s, err, want)
	}
}

func TestP302Set(t *testing.T) {
	checkSet(t, nil, nil)
	checkSet(t, []api.Value{}, nil)
	checkSet(t, []api.Value{long(2), long(1), long(2)}, []api.Value{long(1), long(2)})
	checkSet(t, []api.Value{truth(true), truth(false), truth(true), truth(true)}, []api.Value{truth(false), truth(true)})
	checkSet(t, []api.Value{truth(true)}, []api.Value{truth(true)})
	checkSet(t, []api.Value{long(0), long(0), long(0)}, []api.Value{long(0)})
	checkSet(t, []api.Value{long(1<<63 - 1), long(-1 << 63)}, []api.Value{long(-1 << 63), long(1<<63 - 1)})
	checkSet(t, []api.Value{str("b"), str(""), str("é"), str("b"), str("aa"), str("a")}, []api.Value{str(""), str("a"), str("aa"), str("b"), str("é")})
	checkSet(t, []api.Value{uid("B", "a"), uid("A", "b"), uid("B", "a"), uid("A", "a"), uid("AA", "")}, []api.Value{uid("A", "a"), uid("A", "b"), uid("AA", ""), uid("B", "a")})
}

func TestP302SetOfDoublesInAnyOrder(t *testing.T) {
	for _, l := range [][]api.Value{
		{long(-7), long(0), long(7)},
		{str("a"), str("ab"), str("b")},
		{uid("A", "a"), uid("A", "b"), uid("B", "a")},
	} {
		permutations(slices.Concat(l, l), func(in []api.Value) {
			if !t.Failed() {
				checkSet(t, in, l)
			}
		})
	}
}

func TestP302SetsOfManyKeepEight(t *testing.T) {
	for n := range 12 {
		l := numbers(n)
		back := slices.Clone(l)
		slices.Reverse(back)
		for _, in := range [][]api.Value{l, back, slices.Concat(l, l), slices.Concat(back, l, back), slices.Repeat(back, 300)} {
			if n > 8 {
				checkNoSet(t, in, api.ErrMany)
			} else {
				checkSet(t, in, l)
			}
		}
	}
	eight := numbers(8)
	for at := range 9 {
		checkNoSet(t, slices.Insert(slices.Clone(eight), at, long(100)), api.ErrMany)
		checkNoSet(t, slices.Insert(slices.Clone(eight), at, long(-100)), api.ErrMany)
		checkSet(t, slices.Insert(slices.Clone(eight), at, eight[3]), eight)
	}
}

func TestP302SetOfUnlikeKinds(t *testing.T) {
	all := []api.Value{truth(false), long(1), str("a"), uid("A", "a"), set(), set(long(1))}
	for _, a := range all {
		if a.Kind == api.VSet {
			checkNoSet(t, []api.Value{a}, api.ErrType)
		} else {
			checkSet(t, []api.Value{a}, []api.Value{a})
		}
		for _, b := range all {
			if a.Kind != b.Kind || a.Kind == api.VSet {
				checkNoSet(t, []api.Value{a, b}, api.ErrType)
				checkNoSet(t, []api.Value{a, a, b}, api.ErrType)
				checkNoSet(t, []api.Value{a, b, a}, api.ErrType)
			}
		}
	}
}

// A value of another kind is told ahead of too many, wherever it stands.
func TestP302SetTypeAheadOfMany(t *testing.T) {
	nine := numbers(9)
	for _, other := range []api.Value{truth(true), str("a"), uid("A", "a"), set(), set(long(1))} {
		for at := range 10 {
			checkNoSet(t, slices.Insert(slices.Clone(nine), at, other), api.ErrType)
		}
	}
	checkNoSet(t, nine, api.ErrMany)
}

func TestP302Holds(t *testing.T) {
	all := rising()
	for _, s := range all {
		for _, v := range all {
			want := false
			for _, e := range s.L {
				want = want || sameInAll(e, v)
			}
			if got := value.Holds(s, v); got != want {
				t.Errorf("Holds(%#v, %#v): %v", s, v, got)
			}
		}
	}
	eight := set(numbers(8)...)
	for _, v := range numbers(9) {
		if got := value.Holds(eight, v); got != (v.N <= 4) {
			t.Errorf("Holds(%s, %d): %v", value.Text(eight), v.N, got)
		}
	}
	// What is no set has nothing, not even in a list that is not its kind's.
	if value.Holds(api.Value{Kind: api.VLong, L: []api.Value{long(1)}}, long(1)) || value.Holds(api.Value{L: []api.Value{long(1)}}, long(1)) {
		t.Error("Holds of what is no set")
	}
}

func TestP2SetIsNewMemory(t *testing.T) {
	room := []api.Value{long(3), long(1), long(2), long(1), long(77), long(78), long(79)}
	kept := slices.Clone(room)
	s, err := value.Set(room[:4]...)
	if err != api.OK || !reflect.DeepEqual(room, kept) {
		t.Fatalf("Set changed what it was handed: %#v, %v", room, err)
	}
	for i := range room {
		room[i] = str("x")
	}
	if value.Text(s) != "[1, 2, 3]" {
		t.Errorf("Set kept what it was handed: %s", value.Text(s))
	}
	room = kept
	again, _ := value.Set(room[:4]...)
	for i := range s.L[:cap(s.L)] {
		s.L[:cap(s.L)][i] = str("x")
	}
	if value.Text(again) != "[1, 2, 3]" || room[0].N != 3 || room[4].N != 77 {
		t.Errorf("two answers share their memory: %s", value.Text(again))
	}
}

// P2 holds of what Check refuses, too: a list that stands where none may is not handed on.
func TestP2SetHandsNoListOn(t *testing.T) {
	for _, kind := range []int{-1, 0, api.VBool, api.VLong, api.VStr, api.VUid, 6} {
		inner := []api.Value{long(1)}
		s, _ := value.Set(api.Value{Kind: kind, L: inner})
		for _, e := range s.L {
			for i := range e.L {
				e.L[i] = long(2)
			}
		}
		if inner[0].N != 1 {
			t.Errorf("Set of kind %d hands a list on", kind)
		}
	}
}
