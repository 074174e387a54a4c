package value_test

import (
	"math"
	"slices"
	"strings"
	"testing"

	"chancel/api"
	"chancel/value"
)

func check(t *testing.T, v api.Value, want api.Errno) {
	t.Helper()
	if err := value.Check(v); err != want {
		t.Errorf("Check(%#v): %v; want %v", v, err, want)
	}
}

func TestP301Kinds(t *testing.T) {
	for _, kind := range []int{api.VBool, api.VLong, api.VStr, api.VSet} {
		check(t, api.Value{Kind: kind}, api.OK)
	}
	check(t, api.Value{Kind: api.VUid}, api.ErrName)
	for _, kind := range []int{0, 6, 7, -1, -5, 256 + 1, 1 << 32, 1<<32 + 1, math.MaxInt, math.MinInt, math.MinInt + 1} {
		check(t, api.Value{Kind: kind}, api.ErrKind)
	}
}

func TestP301WhatMayBe(t *testing.T) {
	for _, v := range []api.Value{
		truth(false), truth(true),
		long(0), long(-1), long(math.MaxInt64), long(math.MinInt64),
		str(""), str("a"), str("\x00\n\"\\\x7f"), str("\ufffd"), str("1 = 1 //"),
		uid("A", ""), uid("User", "al"), uid("principal", "\x00é"), uid("true", "true"),
		set(), set(truth(true)), set(long(-1)), set(str("")), set(uid("A", "")),
	} {
		check(t, v, api.OK)
	}
}

// fields puts something into one field, and tells of which kind it is.
var fields = []struct {
	name string
	kind int
	put  func(v *api.Value)
}{
	{"B", api.VBool, func(v *api.Value) { v.B = true }},
	{"N above 0", api.VLong, func(v *api.Value) { v.N = 1 }},
	{"N below 0", api.VLong, func(v *api.Value) { v.N = -1 }},
	{"least N", api.VLong, func(v *api.Value) { v.N = math.MinInt64 }},
	{"S", api.VStr, func(v *api.Value) { v.S = "a" }},
	{"S of a nought", api.VStr, func(v *api.Value) { v.S = "\x00" }},
	{"S that is no text", api.VStr, func(v *api.Value) { v.S = "\xff" }},
	{"Type", api.VUid, func(v *api.Value) { v.U.Type = "A" }},
	{"Id", api.VUid, func(v *api.Value) { v.U.Id = "a" }},
	{"L", api.VSet, func(v *api.Value) { v.L = []api.Value{long(1)} }},
	{"L of no value", api.VSet, func(v *api.Value) { v.L = make([]api.Value, 1) }},
}

func TestP301FieldsOfOtherKinds(t *testing.T) {
	// Some that are refused for what they have themselves: fields of other kinds are told ahead of that.
	for _, v := range []api.Value{
		truth(false), truth(true), long(0), long(-7), str(""), str("a"), uid("A", ""), uid("A", "a"), set(), set(str("a")),
		str("\xff"), str(strings.Repeat("a", 31)), uid("", ""), uid("1", "\xff"), uid("A", "\xff"), set(numbers(9)...), set(set()), set(long(2), long(1)), set(api.Value{}),
	} {
		for _, f := range fields {
			if f.kind == v.Kind {
				continue
			}
			more := v
			f.put(&more)
			if err := value.Check(more); err != api.ErrArg {
				t.Errorf("Check(%#v), with %s: %v", v, f.name, err)
			}
		}
	}
	for _, kind := range []int{-1, 0, 6} {
		for _, f := range fields {
			none := api.Value{Kind: kind}
			f.put(&none)
			check(t, none, api.ErrKind)
		}
	}
}

func TestP301AnEmptyListIsNone(t *testing.T) {
	for _, v := range []api.Value{truth(true), long(1), str("a"), uid("A", "a"), set()} {
		v.L = []api.Value{}
		check(t, v, api.OK)
		v.L = make([]api.Value, 3)[:0]
		check(t, v, api.OK)
		check(t, set(api.Value{Kind: api.VLong, L: []api.Value{}}), api.OK)
	}
}

// checkAsText holds a text against what is wanted of it as a VStr, and as an id.
func checkAsText(t *testing.T, s string, want api.Errno) {
	t.Helper()
	check(t, str(s), want)
	check(t, uid("A", s), want)
	check(t, set(str(s)), want)
	check(t, set(uid("A", s)), want)
}

func TestP301TextsByRunes(t *testing.T) {
	for _, one := range []string{"a", "\x00", "é", "€", "\ufffd", "😀", "\U0010ffff", "e\u0301"} {
		runes := len([]rune(one))
		for _, n := range []int{0, 1, 14, 15, 16, 29, 30, 31, 32, 33, 60, 61, 90, 120, 121, 1000} {
			want := api.OK
			if n*runes > 30 {
				want = api.ErrLong
			}
			checkAsText(t, strings.Repeat(one, n), want)
		}
	}
	checkAsText(t, strings.Repeat("a", 29)+"😀", api.OK)
	checkAsText(t, strings.Repeat("a", 29)+"😀a", api.ErrLong)
	checkAsText(t, strings.Repeat("😀", 30)+"a", api.ErrLong)
}

func TestP301TextsThatAreNone(t *testing.T) {
	for _, bad := range []string{"\xff", "\x80", "\xc3", "\xe2\x82", "\xc0\x80", "\xed\xa0\x80", "\xf4\x90\x80\x80", "\xef\xbf"} {
		for _, n := range []int{0, 1, 28, 29, 30, 31, 100} {
			front := strings.Repeat("é", n)
			checkAsText(t, front+bad, api.ErrRune)
			checkAsText(t, bad+front, api.ErrRune)
			checkAsText(t, front+bad+"a"+front, api.ErrRune)
		}
	}
}

func TestP301TypesOfUids(t *testing.T) {
	for _, name := range []string{"A", "Z", "a", "z", "_", "__", "A0", "_9", "a_b", "User", "abcdefghijk", "abcdefghijkl", "ABCDEFGHIJK9", "____________", "_00000000000"} {
		check(t, uid(name, ""), api.OK)
	}
	for _, name := range []string{"", "0", "9", "1a", "-", "a-b", "a b", " a", "a ", "a\n", "a.b", "a:", "a::b", "\"a\"", "\x00", "a\x00", "é", "aé", "ａ", "a١", "\xff", "a\xff", "a\xc3", "\ufffd", "@", "[", "`", "{", "/", ":", "abcdefghijklm", "_____________", "abcdefghijkl9", "abcdefghijklé", strings.Repeat("a", 24), strings.Repeat("é", 6), strings.Repeat("a", 256+5)} {
		check(t, uid(name, ""), api.ErrName)
		check(t, uid(name, "\xff"), api.ErrName)
		check(t, uid(name, strings.Repeat("a", 31)), api.ErrName)
		check(t, set(uid(name, "")), api.ErrName)
	}
}

func TestP301EverySignOfAType(t *testing.T) {
	const letters, digits = "ABCDEFGHIJKLMNOPQRSTUVWXYZabcdefghijklmnopqrstuvwxyz_", "0123456789"
	try := func(sign string) {
		first, behind := api.ErrName, api.ErrName
		if len(sign) == 1 && strings.Contains(letters, sign) {
			first = api.OK
		}
		if len(sign) == 1 && strings.Contains(letters+digits, sign) {
			behind = api.OK
		}
		check(t, uid(sign, ""), first)
		check(t, uid("a"+sign, ""), behind)
		check(t, uid("_a"+sign+"9", ""), behind)
	}
	for b := range 256 {
		try(string([]byte{byte(b)}))
	}
	for r := rune(0x80); r <= 0x2fff; r++ {
		try(string(r))
	}
}

func TestP301CountsOfSets(t *testing.T) {
	for n := range 20 {
		var texts, uids []api.Value
		for i := range n {
			s := string(rune('a' + i))
			texts, uids = append(texts, str(s)), append(uids, uid("A", s))
		}
		want := api.OK
		if n > 8 {
			want = api.ErrMany
		}
		check(t, set(numbers(n)...), want)
		check(t, set(texts...), want)
		check(t, set(uids...), want)
	}
	check(t, set(truth(false), truth(true)), api.OK)
}

// Nine of whatever kind and order are too many, ahead of all that is said of each.
func TestP301ManyAheadOfElements(t *testing.T) {
	for _, bad := range []api.Value{{}, {Kind: 6}, set(), str("a"), str("\xff"), long(-3), long(100), {Kind: api.VLong, B: true}} {
		for at := range 9 {
			check(t, set(slices.Insert(numbers(8), at, bad)...), api.ErrMany)
		}
	}
}

func TestP301KindsInSets(t *testing.T) {
	all := []api.Value{truth(false), long(1), str("a"), uid("A", "a"), set(), set(long(1)), {}, {Kind: 6}, {Kind: -1}}
	sound := func(v api.Value) bool { return api.VBool <= v.Kind && v.Kind <= api.VUid }
	for _, a := range all {
		first := api.OK
		if a.Kind == api.VSet {
			first = api.ErrType
		} else if !sound(a) {
			first = api.ErrKind
		}
		check(t, set(a), first)
		for _, b := range all {
			want := first
			if want == api.OK && a.Kind != b.Kind {
				want = api.ErrType
			}
			if want == api.OK {
				want = api.ErrArg // the same value twice
			}
			check(t, set(a, b), want)
		}
	}
	check(t, set(long(1), long(2), str("a")), api.ErrType)
	check(t, set(long(1), long(2), set(long(3))), api.ErrType)
	check(t, set(set(), set(truth(true))), api.ErrType)
}

func TestP301OrderInSets(t *testing.T) {
	for _, l := range [][]api.Value{
		numbers(8),
		{truth(false), truth(true)},
		{long(math.MinInt64), long(-10), long(-9), long(0), long(9), long(10), long(math.MaxInt64)},
		{str(""), str("A"), str("a"), str("aa"), str("b"), str("é"), str("\uffff"), str("\U00010000")},
		{uid("A", "b"), uid("A", "c"), uid("AA", "a"), uid("B", ""), uid("B", "a"), uid("_", "a"), uid("a", "")},
	} {
		check(t, set(l...), api.OK)
		for i := range l {
			for k := range i {
				swapped := slices.Clone(l)
				swapped[i], swapped[k] = swapped[k], swapped[i]
				check(t, set(swapped...), api.ErrArg)
				check(t, set(l[i], l[k]), api.ErrArg)
				check(t, set(l[k], l[i]), api.OK)
			}
			if len(l) < 8 {
				check(t, set(slices.Insert(slices.Clone(l), i, l[i])...), api.ErrArg)
			}
		}
	}
}

// Of each element: that it is of another kind, then what Check says of it, then that it is not above the one ahead; and those of the first element that has one.
func TestP301OrderOfErrorsInSets(t *testing.T) {
	tall := strings.Repeat("z", 31)
	more := func(v api.Value) api.Value {
		v.L = []api.Value{long(1)}
		return v
	}
	for _, c := range []struct {
		v    api.Value
		want api.Errno
	}{
		{set(long(2), more(str("\xff"))), api.ErrType},
		{set(long(2), api.Value{N: 1}), api.ErrType},
		{set(more(long(1))), api.ErrArg},
		{set(str("b"), more(str("c"))), api.ErrArg},
		{set(str("b"), str("a\xff")), api.ErrRune},
		{set(str("z"), str(tall[1:]+"a\xff")), api.ErrRune},
		{set(str("zz"), str("y"+tall)), api.ErrLong},
		{set(uid("B", "a"), uid("A", "\xff")), api.ErrRune},
		{set(uid("B", "a"), uid("A", tall)), api.ErrLong},
		{set(uid("B", "a"), uid("1", "\xff")), api.ErrName},
		{set(uid("B", "a"), uid("A", "b")), api.ErrArg},
		{set(str("b"), str("a"), str("\xff")), api.ErrArg},
		{set(str("b"), str("\xff"), str("a")), api.ErrRune},
		{set(str("b"), str("a"), long(1)), api.ErrArg},
		{set(str("b"), long(1), str("a")), api.ErrType},
		{set(str("\xff"), long(1)), api.ErrRune},
		{set(str(tall), str("\xff")), api.ErrLong},
		{set(uid("", ""), uid("A", "\xff")), api.ErrName},
		{set(long(1), long(2), long(2), set()), api.ErrArg},
		{set(long(1), long(2), set(), long(2)), api.ErrType},
	} {
		check(t, c.v, c.want)
	}
}
