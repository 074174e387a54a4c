package value_test

import (
	"math"
	"reflect"
	"strings"
	"testing"

	"chancel/api"
	"chancel/value"
)

func truth(b bool) api.Value { return api.Value{Kind: api.VBool, B: b} }

func long(n int64) api.Value { return api.Value{Kind: api.VLong, N: n} }

func str(s string) api.Value { return api.Value{Kind: api.VStr, S: s} }

func uid(t, id string) api.Value { return api.Value{Kind: api.VUid, U: api.Uid{Type: t, Id: id}} }

func set(l ...api.Value) api.Value { return api.Value{Kind: api.VSet, L: l} }

// numbers tells n values, rising.
func numbers(n int) []api.Value {
	var l []api.Value
	for i := range n {
		l = append(l, long(int64(i)-3))
	}
	return l
}

// rising tells values, each of which stands ahead of all behind it: some of every kind, and sets of every kind.
func rising() []api.Value {
	plain := []api.Value{
		truth(false), truth(true),
		long(math.MinInt64), long(math.MinInt64 + 1), long(-10), long(-9), long(-1), long(0), long(1), long(9), long(10), long(math.MaxInt64),
		str(""), str("\x00"), str("\x00\x00"), str("\n"), str(" "), str("-1"), str("1"), str("10"), str("9"), str("A"), str("Aa"), str("B"), str("_"), str("a"), str("a\x00"), str("aa"), str("ab"), str("b"), str("\x7f"), str("\u0080"), str("é"), str("€"), str("\uffff"), str("\U00010000"),
		uid("A", ""), uid("A", "a"), uid("A", "b"), uid("A", "é"), uid("A0", ""), uid("AA", "a"), uid("Aa", ""), uid("B", ""), uid("B", "B"), uid("B", "a"), uid("_", ""), uid("a", "A"), uid("a", "a"), uid("aaaaaaaaaaaa", "a"),
	}
	sets := []api.Value{
		set(),
		set(truth(false)), set(truth(false), truth(true)), set(truth(true)),
		set(long(math.MinInt64)), set(long(-1)), set(long(-1), long(0)), set(long(-1), long(0), long(1)), set(long(-1), long(1)), set(long(-1), long(2), long(3)), set(long(0)), set(long(0), long(1), long(2), long(3), long(4), long(5), long(6), long(7)), set(long(0), long(1), long(2), long(3), long(4), long(5), long(6), long(8)), set(long(2)), set(long(2), long(10)), set(long(10)),
		set(str("")), set(str(""), str("b")), set(str("a")), set(str("a"), str("b")), set(str("ab")),
		set(uid("A", "a")), set(uid("A", "a"), uid("A", "b")), set(uid("A", "a"), uid("B", "")), set(uid("A", "b")), set(uid("B", "a")),
	}
	return append(plain, sets...)
}

// odd tells values that Check refuses: of no kind, with fields of other kinds, with texts that are none, too long, too many, in no order, deep, and one that holds itself.
func odd() []api.Value {
	full := func(kind int) api.Value {
		return api.Value{Kind: kind, B: true, N: -5, S: "\xff", U: api.Uid{Type: "1", Id: "\xc3"}, L: []api.Value{long(2), str("a"), {}, set(long(1))}}
	}
	var l []api.Value
	for _, kind := range []int{math.MinInt, -1, 0, 1, 2, 3, 4, 5, 6, math.MaxInt} {
		l = append(l, full(kind), set(full(kind)), set(full(kind), full(kind)))
	}
	deep, wide := set(), set()
	for range 90 {
		deep, wide = set(deep), set(wide, wide, wide)
	}
	self := make([]api.Value, 2)
	self[0], self[1] = set(self...), api.Value{Kind: api.VSet, L: self}
	return append(l, api.Value{}, api.Value{Kind: 6}, str("\xff"), str(strings.Repeat("é", 1000)), uid("", ""), uid("\xff", "\xff"), set(numbers(500)...), set(long(2), long(1), long(2)), set(long(1), str("1"), truth(true)), deep, wide, set(self...))
}

func TestRisingAndOddAreWhatTheySay(t *testing.T) {
	for _, v := range rising() {
		if err := value.Check(v); err != api.OK {
			t.Errorf("Check(%#v): %v", v, err)
		}
	}
	for i, v := range odd() {
		if err := value.Check(v); err == api.OK {
			t.Errorf("Check of odd value %d: %v", i, err)
		}
	}
}

func TestP1AndP2OfWhateverIsHandedIn(t *testing.T) {
	l, kept := append(odd(), rising()...), append(odd(), rising()...)
	for _, a := range l {
		value.Check(a)
		value.Text(a)
		value.Set(a)
		for _, b := range l {
			value.Same(a, b)
			value.Less(a, b)
			value.LessUid(a.U, b.U)
			value.Holds(a, b)
			value.Set(a, b, a)
		}
	}
	value.Set(l...)
	if !reflect.DeepEqual(l, kept) {
		t.Error("what was handed in is changed")
	}
}
