package ents_test

import (
	"strings"
	"testing"

	"chancel/api"
	"chancel/ents"
)

func check(t *testing.T, what string, l []api.Entity, want api.Errno) {
	t.Helper()
	if err := ents.Check(l); err != want {
		t.Errorf("%s: %v; want %v: %.400s", what, err, want, dump(l))
	}
}

// checkOne asks of an entity that was changed: by itself, and as the first, a middle, the last one of several.
func checkOne(t *testing.T, what string, change func(e *api.Entity), want api.Errno) {
	t.Helper()
	e := full(uid("A", "x"))
	change(&e)
	check(t, what, []api.Entity{e}, want)
	for at := range 16 {
		l := many(16)
		e := full(l[at].U)
		change(&e)
		l[at] = e
		check(t, what, l, want)
	}
}

func TestP801Counts(t *testing.T) {
	check(t, "nil", nil, api.OK)
	check(t, "empty", []api.Entity{}, api.OK)
	for n := range 40 {
		want := api.OK
		if n > 16 {
			want = api.ErrMany
		}
		check(t, "full entities", many(n), want)
		bare := many(n)
		for i := range bare {
			bare[i].Parents, bare[i].Attrs = nil, nil
		}
		check(t, "bare entities", bare, want)
	}
}

// Too many are told ahead of all that is said of each.
func TestP801ManyAheadOfEach(t *testing.T) {
	check(t, "zero entities", make([]api.Entity, 17), api.ErrMany)
	check(t, "zero entities", make([]api.Entity, 16), api.ErrName)
	for at := range 17 {
		for _, e := range []api.Entity{{}, odd(uid("A", "a")), full(uid("A", "000")), full(uid("1", "\xff"))} {
			l := many(17)
			l[at] = e
			check(t, "17", l, api.ErrMany)
		}
	}
}

func TestP801CountsOfParents(t *testing.T) {
	for n := range 10 {
		want := api.OK
		if n > 4 {
			want = api.ErrMany
		}
		parents := make([]api.Uid, 0, n)
		for i := range n {
			parents = append(parents, uid("P", string(rune('a'+i))))
		}
		checkOne(t, "parents", func(e *api.Entity) { e.Parents = parents }, want)
	}
	checkOne(t, "zero parents", func(e *api.Entity) { e.Parents = make([]api.Uid, 5) }, api.ErrMany)
	checkOne(t, "zero parents", func(e *api.Entity) { e.Parents = make([]api.Uid, 4) }, api.ErrName)
	checkOne(t, "empty parents", func(e *api.Entity) { e.Parents = []api.Uid{} }, api.OK)
}

func TestP801CountsOfAttrs(t *testing.T) {
	for n := range 10 {
		want := api.OK
		if n > 5 {
			want = api.ErrMany
		}
		attrs := make([]api.Attr, 0, n)
		for i := range n {
			attrs = append(attrs, attr(string(rune('a'+i)), long(1)))
		}
		checkOne(t, "attributes", func(e *api.Entity) { e.Attrs = attrs }, want)
	}
	checkOne(t, "zero attributes", func(e *api.Entity) { e.Attrs = make([]api.Attr, 6) }, api.ErrMany)
	checkOne(t, "zero attributes", func(e *api.Entity) { e.Attrs = make([]api.Attr, 5) }, api.ErrName)
	checkOne(t, "empty attributes", func(e *api.Entity) { e.Attrs = []api.Attr{} }, api.OK)
}

// risingUids stand by their types, then their ids, byte by byte.
func risingUids() []api.Uid {
	return []api.Uid{uid("A", ""), uid("A", "B"), uid("A", "a"), uid("A", "aa"), uid("A", "b"), uid("A", "é"), uid("A9", ""), uid("AA", ""), uid("B", ""), uid("B", "a"), uid("_", "a"), uid("a", "A")}
}

func orderOf(i, k int) api.Errno {
	if i < k {
		return api.OK
	}
	return api.ErrArg
}

func TestP801OrderOfParents(t *testing.T) {
	l := risingUids()
	for i, a := range l {
		for k, b := range l {
			checkOne(t, "two parents", func(e *api.Entity) { e.Parents = []api.Uid{a, b} }, orderOf(i, k))
		}
	}
	a, b, c, d := uid("A", "a"), uid("A", "b"), uid("B", "a"), uid("B", "b")
	for _, x := range []struct {
		l    []api.Uid
		want api.Errno
	}{
		{[]api.Uid{a, b, c, d}, api.OK},
		{[]api.Uid{a, b, d, c}, api.ErrArg},
		{[]api.Uid{a, c, b, d}, api.ErrArg},
		{[]api.Uid{b, a, c, d}, api.ErrArg},
		{[]api.Uid{a, b, c, c}, api.ErrArg},
		{[]api.Uid{a, b, b, c}, api.ErrArg},
		{[]api.Uid{a, a, b, c}, api.ErrArg},
		{[]api.Uid{a, b, c, a}, api.ErrArg},
		{[]api.Uid{d, c, b, a}, api.ErrArg},
	} {
		checkOne(t, "parents", func(e *api.Entity) { e.Parents = x.l }, x.want)
	}
}

// Parents need not be there, and may be the entity itself, or stand in a circle.
func TestP801ParentsAreNotLookedFor(t *testing.T) {
	l := rowOf("a", "b")
	l[0].Parents, l[1].Parents = []api.Uid{l[0].U, l[1].U}, []api.Uid{l[0].U, uid("Z", "not")}
	check(t, "circle", l, api.OK)
}

func TestP801OrderOfAttrs(t *testing.T) {
	l := []string{"A", "A0", "AA", "Aa", "B", "_", "_0", "a", "a0", "aA", "a_", "aa", "b", "bbbbbbbbbbbb"}
	for i, a := range l {
		for k, b := range l {
			checkOne(t, "two names", func(e *api.Entity) { e.Attrs = []api.Attr{attr(a, long(1)), attr(b, long(2))} }, orderOf(i, k))
			checkOne(t, "two names, the same value", func(e *api.Entity) { e.Attrs = []api.Attr{attr(a, long(1)), attr(b, long(1))} }, orderOf(i, k))
		}
	}
	for names, want := range map[string]api.Errno{
		"a b c d e": api.OK,
		"a b c e d": api.ErrArg,
		"a b d c e": api.ErrArg,
		"a c b d e": api.ErrArg,
		"b a c d e": api.ErrArg,
		"a b c d d": api.ErrArg,
		"a b b c d": api.ErrArg,
		"a a b c d": api.ErrArg,
		"a b c d a": api.ErrArg,
		"e d c b a": api.ErrArg,
	} {
		checkOne(t, names, func(e *api.Entity) {
			for i, name := range strings.Fields(names) {
				e.Attrs[i].Name = name
			}
		}, want)
	}
}

func TestP801NamesOfAttrs(t *testing.T) {
	for _, name := range []string{"a", "Z", "_", "__", "a0", "_9", "true", "in", "abcdefghijkl", "ABCDEFGHIJK9"} {
		checkOne(t, name, func(e *api.Entity) { e.Attrs = []api.Attr{attr(name, long(1))} }, api.OK)
	}
	for _, name := range []string{"", "0", "1a", "-", "a-b", "a b", " a", "a ", "a.b", "é", "aé", "\xff", "a\xff", "\x00", "a\x00", "abcdefghijklm", strings.Repeat("a", 268)} {
		for at := range 5 {
			checkOne(t, name, func(e *api.Entity) { e.Attrs[at].Name = name }, api.ErrName)
		}
	}
}

func TestP801OrderOfEntities(t *testing.T) {
	l := risingUids()
	for i, a := range l {
		for k, b := range l {
			check(t, "two", []api.Entity{full(a), full(b)}, orderOf(i, k))
			check(t, "two bare ones", []api.Entity{{U: a}, {U: b}}, orderOf(i, k))
		}
	}
	for at := range 15 {
		swapped := many(16)
		swapped[at], swapped[at+1] = swapped[at+1], swapped[at]
		check(t, "the wrong way about", swapped, api.ErrArg)
		twice := many(16)
		twice[at+1].U = twice[at].U
		check(t, "two of one uid", twice, api.ErrArg)
	}
	apart := many(3)
	apart[2].U = apart[0].U
	check(t, "two of one uid, apart", apart, api.ErrArg)
}

// oddUids are such as value.Check refuses, with its errors.
func oddUids() map[api.Uid]api.Errno {
	tooLong := strings.Repeat("é", 31)
	return map[api.Uid]api.Errno{
		uid("A", ""):                         api.OK,
		uid("A", strings.Repeat("é", 30)):    api.OK,
		uid("abcdefghijkl", "\x00"):          api.OK,
		uid("", ""):                          api.ErrName,
		uid("", "a"):                         api.ErrName,
		uid("1", "a"):                        api.ErrName,
		uid("a b", "a"):                      api.ErrName,
		uid("é", "a"):                        api.ErrName,
		uid("abcdefghijklm", "a"):            api.ErrName,
		uid("1", "\xff"):                     api.ErrName,
		uid("1", tooLong):                    api.ErrName,
		uid("A", "\xff"):                     api.ErrRune,
		uid("A", "a\xc3"):                    api.ErrRune,
		uid("A", tooLong+"\xff"):             api.ErrRune,
		uid("A", tooLong):                    api.ErrLong,
		uid("A", strings.Repeat("a", 31)):    api.ErrLong,
		uid("A", strings.Repeat("a", 10000)): api.ErrLong,
	}
}

func TestP801Uids(t *testing.T) {
	for u, want := range oddUids() {
		check(t, "U", []api.Entity{full(u)}, want)
		checkOne(t, "a parent", func(e *api.Entity) { e.Parents = []api.Uid{u} }, want)
		checkOne(t, "an attribute", func(e *api.Entity) { e.Attrs[2].V = ref(u.Type, u.Id) }, want)
		if want == api.OK {
			continue
		}
		for at := range 16 {
			l := many(16)
			l[at].U = u
			check(t, "U among others", l, want)
		}
		for at := range 4 {
			checkOne(t, "a parent among others", func(e *api.Entity) { e.Parents[at] = u }, want)
		}
	}
}

func TestP801Values(t *testing.T) {
	nine := set()
	for i := range 9 {
		nine.L = append(nine.L, long(int64(i)))
	}
	for _, x := range []struct {
		v    api.Value
		want api.Errno
	}{
		{truth(false), api.OK}, {long(-1 << 63), api.OK}, {str(""), api.OK}, {ref("Z", "not"), api.OK}, {set(), api.OK}, {set(nine.L[:8]...), api.OK},
		{api.Value{}, api.ErrKind},
		{api.Value{Kind: 6}, api.ErrKind},
		{api.Value{Kind: -1}, api.ErrKind},
		{api.Value{Kind: api.VLong, B: true}, api.ErrArg},
		{api.Value{Kind: api.VBool, L: []api.Value{long(1)}}, api.ErrArg},
		{str("\xff"), api.ErrRune},
		{str(strings.Repeat("a", 30)), api.OK},
		{str(strings.Repeat("a", 31)), api.ErrLong},
		{ref("", ""), api.ErrName},
		{nine, api.ErrMany},
		{set(long(1), str("a")), api.ErrType},
		{set(set()), api.ErrType},
		{deep(90), api.ErrType},
		{set(api.Value{Kind: 6}), api.ErrKind},
		{set(str("\xff")), api.ErrRune},
		{set(long(2), long(1)), api.ErrArg},
		{set(long(1), long(1)), api.ErrArg},
	} {
		for at := range 5 {
			checkOne(t, "a value", func(e *api.Entity) { e.Attrs[at].V = x.v }, x.want)
		}
	}
}

// faults stand in the order of the promise, of the middle one of three entities: each is to be told ahead of all behind it.
var faults = []struct {
	name string
	make func(l []api.Entity)
	want api.Errno
}{
	{"the type of U", func(l []api.Entity) { l[1].U.Type = "1" }, api.ErrName},
	{"the id of U", func(l []api.Entity) { l[1].U.Id = "\xff" }, api.ErrRune},
	{"too many parents", func(l []api.Entity) { l[1].Parents = append(l[1].Parents, uid("O", "a")) }, api.ErrMany},
	{"the first parent", func(l []api.Entity) { l[1].Parents[0].Id = strings.Repeat("a", 31) }, api.ErrLong},
	{"the second parent", func(l []api.Entity) { l[1].Parents[1].Id = "\xff" }, api.ErrRune},
	{"the third parent", func(l []api.Entity) { l[1].Parents[2].Type = "B" }, api.ErrArg},
	{"the fourth parent", func(l []api.Entity) { l[1].Parents[3].Type = "" }, api.ErrName},
	{"too many attributes", func(l []api.Entity) { l[1].Attrs = append(l[1].Attrs, attr("p", long(1))) }, api.ErrMany},
	{"the first name", func(l []api.Entity) { l[1].Attrs[0].Name = "" }, api.ErrName},
	{"the first value", func(l []api.Entity) { l[1].Attrs[0].V.N = 1 }, api.ErrArg},
	{"the second value", func(l []api.Entity) { l[1].Attrs[1].V.Kind = 9 }, api.ErrKind},
	{"the third value", func(l []api.Entity) { l[1].Attrs[2].V.S = "\xff" }, api.ErrRune},
	{"the third name", func(l []api.Entity) { l[1].Attrs[2].Name = "B" }, api.ErrArg},
	{"the fourth name", func(l []api.Entity) { l[1].Attrs[3].Name = "4" }, api.ErrName},
	{"the fifth value", func(l []api.Entity) { l[1].Attrs[4].V.L[0] = set() }, api.ErrType},
	{"the order of entities", func(l []api.Entity) { l[0].U.Type = "Z" }, api.ErrArg},
	{"the next U", func(l []api.Entity) { l[2].U.Type = "" }, api.ErrName},
	{"the next one's parents", func(l []api.Entity) { l[2].Parents = make([]api.Uid, 5) }, api.ErrMany},
	{"the next one's values", func(l []api.Entity) { l[2].Attrs[4].V.Kind = 0 }, api.ErrKind},
}

func TestP801FirstFault(t *testing.T) {
	for i, first := range faults {
		one := rowOf("a", "b", "c")
		first.make(one)
		check(t, first.name, one, first.want)
		rest := rowOf("a", "b", "c")
		for _, other := range faults[i+1:] {
			two := rowOf("a", "b", "c")
			first.make(two)
			other.make(two)
			check(t, first.name+", "+other.name, two, first.want)
			other.make(rest)
		}
		first.make(rest)
		check(t, first.name+", all behind it", rest, first.want)
	}
}

// Of one parent, of one attribute: what it is ahead of where it stands.
func TestP801FirstFaultOfAnElement(t *testing.T) {
	checkOne(t, "a parent", func(e *api.Entity) { e.Parents[1] = uid("A", "\xff") }, api.ErrRune)
	checkOne(t, "a parent", func(e *api.Entity) { e.Parents[1] = uid("", "a") }, api.ErrName)
	checkOne(t, "a parent", func(e *api.Entity) { e.Parents[1], e.Parents[2] = uid("A", "a"), uid("", "a") }, api.ErrArg)
	checkOne(t, "an attribute", func(e *api.Entity) { e.Attrs[1] = attr("1", api.Value{}) }, api.ErrName)
	checkOne(t, "an attribute", func(e *api.Entity) { e.Attrs[1] = attr("a", api.Value{}) }, api.ErrKind)
	checkOne(t, "an attribute", func(e *api.Entity) { e.Attrs[1] = attr("k", str("\xff")) }, api.ErrRune)
	checkOne(t, "an attribute", func(e *api.Entity) { e.Attrs[1], e.Attrs[2] = attr("a", long(1)), attr("", long(1)) }, api.ErrArg)
	l := rowOf("b", "a")
	l[1].Attrs[4].Name = ""
	check(t, "the last attribute of one that stands wrong", l, api.ErrName)
	l = rowOf("b", "a", "c")
	l[2].U = api.Uid{}
	check(t, "one that stands wrong, ahead of one that is none", l, api.ErrArg)
}

// Of lists those of the first element that has an error (P6).
func TestP801FirstEntityWithAFault(t *testing.T) {
	for i := range 16 {
		for k := i + 1; k < 16; k++ {
			l := many(16)
			l[i].Attrs[4].V = api.Value{}
			l[k].U.Type = ""
			check(t, "two entities", l, api.ErrKind)
			l = many(16)
			l[i].Parents = make([]api.Uid, 5)
			l[k].U.Id = "\xff"
			check(t, "two entities", l, api.ErrMany)
		}
	}
}
