package fit_test

import (
	"math"
	"slices"
	"strings"
	"testing"

	"chancel/api"
	"chancel/fit"
	"chancel/value"
)

// allTypes are words of each type that there is, with the names of several kinds.
func allTypes() []string {
	return []string{"Bool", "Long", "String", "A", "B", "C", "Set Bool", "Set Long", "Set String", "Set A", "Set B", "Set C"}
}

// allSets are the words of the sets among them.
func allSets() string { return strings.Join(allTypes()[6:], ", ") }

// sample is a value, and the words of all types that it is of.
type sample struct {
	v     api.Value
	kinds string
}

func samples() []sample {
	return []sample{
		{truth(false), "Bool"},
		{truth(true), "Bool"},
		{long(0), "Long"},
		{long(1), "Long"},
		{long(math.MinInt64), "Long"},
		{long(math.MaxInt64), "Long"},
		{str(""), "String"},
		{str("1"), "String"},
		{str("true"), "String"},
		{str("A"), "String"},
		{str(`A::"a"`), "String"},
		{ref("A", ""), "A"},
		{ref("A", "B"), "A"},
		{ref("B", ""), "B"},
		{ref("B", "A"), "B"},
		{ref("C", strings.Repeat("é", api.MaxString)), "C"},
		{ref("AA", "a"), ""},
		{ref("a", "A"), ""},
		{ref("Action", "a"), ""},
		{ref("Bool", "true"), ""},
		{ref("Long", "1"), ""},
		{ref("String", "a"), ""},
		{ref("Set", ""), ""},
		{set(), allSets()},
		{set(truth(false)), "Set Bool"},
		{set(truth(false), truth(true)), "Set Bool"},
		{set(long(0)), "Set Long"},
		{set(long(-1), long(0), long(1), long(2), long(3), long(4), long(5), long(6)), "Set Long"},
		{set(str("")), "Set String"},
		{set(str("A"), str("B"), str("true")), "Set String"},
		{set(ref("A", "")), "Set A"},
		{set(ref("A", ""), ref("A", "B")), "Set A"},
		{set(ref("B", "A")), "Set B"},
		{set(ref("C", "a"), ref("C", "b"), ref("C", "c")), "Set C"},
		{set(ref("Action", "a")), ""},
		{set(ref("a", "A")), ""},
		{set(ref("A", ""), ref("B", "")), ""},
		{set(ref("A", ""), ref("B", ""), ref("C", "")), ""},
	}
}

func TestP1201EachKindAgainstEachType(t *testing.T) {
	for _, x := range samples() {
		if err := value.Check(x.v); err != api.OK {
			t.Fatalf("%s: %v", value.Text(x.v), err)
		}
		of := strings.Split(x.kinds, ", ")
		for _, kind := range allTypes() {
			checkValue(t, usual(t), kind, x.v, slices.Contains(of, kind))
		}
	}
}

// The type says all: whatever kinds there are.
func TestP1201WhateverTheSchema(t *testing.T) {
	for _, s := range []api.Schema{{}, made(t, `entity Z {};`), made(t, `entity A in A { b: Long };`)} {
		for _, x := range samples() {
			of := strings.Split(x.kinds, ", ")
			for _, kind := range allTypes() {
				checkValue(t, s, kind, x.v, slices.Contains(of, kind))
			}
		}
	}
}

func TestP1201EmptySets(t *testing.T) {
	for _, v := range []api.Value{{Kind: api.VSet}, {Kind: api.VSet, L: []api.Value{}}, {Kind: api.VSet, L: make([]api.Value, 0, 3)}} {
		for _, kind := range allTypes() {
			checkValue(t, usual(t), kind, v, strings.HasPrefix(kind, "Set "))
		}
		checkValue(t, usual(t), "Set Nobody", v, true)
	}
}

// Of a set of uids one alone is of another type: the first one, or the last one, as they rise.
func TestP1201OneElementOfAnotherType(t *testing.T) {
	var l []api.Value
	for _, id := range strings.Split("abcdefg", "") {
		l = append(l, ref("B", id))
		all := set(l...)
		checkValue(t, usual(t), "Set B", all, true)
		first := set(append([]api.Value{ref("A", "z")}, l...)...)
		last := set(append(slices.Clone(l), ref("C", ""))...)
		near := set(append(slices.Clone(l), ref("BB", id))...)
		for _, v := range []api.Value{first, last, near} {
			if err := value.Check(v); err != api.OK {
				t.Fatal(value.Text(v), err)
			}
			for _, kind := range allTypes() {
				checkValue(t, usual(t), kind, v, false)
			}
		}
	}
}

// A set of a kind is no single one, and a single one no set of it.
func TestP1201SetsAndElements(t *testing.T) {
	for _, x := range samples() {
		if x.v.Kind == api.VSet || x.kinds == "" {
			continue
		}
		checkValue(t, usual(t), x.kinds, x.v, true)
		checkValue(t, usual(t), "Set "+x.kinds, x.v, false)
		checkValue(t, usual(t), x.kinds, set(x.v), false)
		checkValue(t, usual(t), "Set "+x.kinds, set(x.v), true)
	}
}

// Nothing is of a type that is none.
func TestP1201NoType(t *testing.T) {
	for _, x := range samples() {
		for _, kind := range []int{-1, 0, 6, 99} {
			if fit.Value(usual(t), api.Type{Kind: kind, Of: api.TLong, Name: "A"}, x.v) {
				t.Errorf("%s is of %d", value.Text(x.v), kind)
			}
		}
	}
}
