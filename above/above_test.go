package above_test

import (
	"strings"
	"testing"

	"chancel/above"
	"chancel/api"
)

func TestExample1(t *testing.T) {
	for _, l := range [][]api.Entity{world("a b", "b c"), world("a b", "b c", "c")} {
		checkAbove(t, l, "a", "b c")
		checkBelow(t, l, "c", "a b")
	}
}

func TestP901NoEntities(t *testing.T) {
	for _, l := range [][]api.Entity{nil, {}} {
		checkIn(t, l, "a", "a", true)
		checkIn(t, l, "a", "b", false)
		checkIn(t, l, ":", ":", true)
		checkIn(t, l, ":", "a", false)
		checkAbove(t, l, "a", "")
		checkBelow(t, l, "a", "")
		checkCircle(t, l, "a", "", false)
		checkCircle(t, l, "a", "b c", false)
		checkCircle(t, l, "a", "b a", true)
	}
}

func TestP901NoParents(t *testing.T) {
	l := world("a", "b", "c")
	for _, u := range []string{"a", "b", "c", "z"} {
		for _, x := range []string{"a", "b", "c", "z"} {
			checkIn(t, l, u, x, u == x)
			checkCircle(t, l, u, x, u == x)
		}
		checkAbove(t, l, u, "")
		checkBelow(t, l, u, "")
		checkCircle(t, l, u, "", false)
	}
}

// One that is not there is in itself, has nobody above it, and may have some below it.
func TestP901NotThere(t *testing.T) {
	l := world("a b z", "b y", "c z")
	for _, u := range []string{"z", "y", "x"} {
		checkAbove(t, l, u, "")
		for _, x := range []string{"a", "b", "c", "x", "y", "z"} {
			checkIn(t, l, u, x, u == x)
		}
	}
	checkAbove(t, l, "a", "b y z")
	checkAbove(t, l, "b", "y")
	checkAbove(t, l, "c", "z")
	checkIn(t, l, "a", "y", true)
	checkIn(t, l, "a", "z", true)
	checkIn(t, l, "c", "y", false)
	checkBelow(t, l, "z", "a c")
	checkBelow(t, l, "y", "a b")
	checkBelow(t, l, "x", "")
	checkCircle(t, l, "y", "a", true)
	checkCircle(t, l, "y", "c x z", false)
	checkCircle(t, l, "x", "a b c", false)
}

func TestP901Chain(t *testing.T) {
	for n := 1; n <= api.MaxEntities; n++ {
		l := chain(n, "")
		all := strings.Split("abcdefghijklmnop"[:n], "")
		for i, u := range all {
			checkAbove(t, l, u, strings.Join(all[i+1:], " "))
			checkBelow(t, l, u, strings.Join(all[:i], " "))
			for k, x := range all {
				checkIn(t, l, u, x, i <= k)
				checkCircle(t, l, u, x, k <= i)
			}
		}
	}
}

func TestP901ParentsInAnyOrderAndTwice(t *testing.T) {
	for _, l := range [][]api.Entity{
		world("a b c d", "b e", "c e", "d"),
		world("a d c b", "b e", "c e", "d"),
		world("a c d b", "b e e", "c e", "d"),
		world("a b b c d d", "b e", "c e e e", "d"),
		world("a d b c d b", "b e", "c e", "d"),
	} {
		checkAbove(t, l, "a", "b c d e")
		checkBelow(t, l, "e", "a b c")
		checkBelow(t, l, "d", "a")
		checkIn(t, l, "a", "e", true)
		checkIn(t, l, "d", "e", false)
		checkCircle(t, l, "e", "d d a", true)
		checkCircle(t, l, "e", "a d", true)
		checkCircle(t, l, "b", "d d c e", false)
	}
}

func TestP901CircleOfOne(t *testing.T) {
	l := world("a a", "b a c", "c")
	checkAbove(t, l, "a", "a")
	checkAbove(t, l, "b", "a c")
	checkAbove(t, l, "c", "")
	checkBelow(t, l, "a", "b")
	checkBelow(t, l, "c", "b")
	checkIn(t, l, "a", "a", true)
	checkIn(t, l, "a", "c", false)
	checkAbove(t, world("a a b", "b"), "a", "a b")
	checkBelow(t, world("a a b", "b"), "b", "a")
	checkBelow(t, world("a a"), "a", "")
}

func TestP901CircleOfTwo(t *testing.T) {
	l := world("a b", "b a z", "c a", "d c")
	checkAbove(t, l, "a", "a b z")
	checkAbove(t, l, "b", "a b z")
	checkAbove(t, l, "c", "a b z")
	checkAbove(t, l, "d", "a b c z")
	checkBelow(t, l, "a", "b c d")
	checkBelow(t, l, "b", "a c d")
	checkBelow(t, l, "c", "d")
	checkBelow(t, l, "z", "a b c d")
	checkIn(t, l, "a", "b", true)
	checkIn(t, l, "b", "a", true)
	checkIn(t, l, "a", "c", false)
}

func TestP901CircleOfAll(t *testing.T) {
	l := chain(api.MaxEntities, "a")
	const all = "a b c d e f g h i j k l m n o p"
	for _, u := range strings.Fields(all) {
		checkAbove(t, l, u, all)
		others := strings.Join(strings.Fields(strings.Replace(all, u, "", 1)), " ")
		checkBelow(t, l, u, others)
		checkIn(t, l, u, "z", false)
		for _, x := range strings.Fields(all) {
			checkIn(t, l, u, x, true)
			checkCircle(t, l, u, x, true)
		}
	}
}

// u itself is above it where a circle leads back to it, not where there is one above it.
func TestP901OnlyCirclesLeadBack(t *testing.T) {
	l := world("a b", "b c", "c d", "d c", "e e")
	for u, want := range map[string]string{"a": "b c d", "b": "c d", "c": "c d", "d": "c d", "e": "e"} {
		checkAbove(t, l, u, want)
	}
	for u, want := range map[string]string{"a": "", "b": "a", "c": "a b d", "d": "a b c", "e": ""} {
		checkBelow(t, l, u, want)
	}
}

// By Type, then Id, byte by byte, whatever the way up is.
func TestP901Rising(t *testing.T) {
	const all = "A:b A:z AA:a B:a B:aa B:b Z:a _:a a:A a:B a:a a:é"
	l := world("M:m a:é Z:a A:b a:B", "Z:a B:b B:a AA:a", "A:b a:a a:A B:aa", "a:B _:a A:z")
	checkAbove(t, l, "M:m", all)
	var rows []string
	for _, u := range strings.Fields(all) {
		rows = append(rows, u+" M:m")
	}
	checkBelow(t, world(rows...), "M:m", all)
}

// A uid is both its type and its id.
func TestP901ByTypeAndId(t *testing.T) {
	l := world("A:b B:a", "B:b A:a", "AB:c ABC:")
	checkIn(t, l, "A:b", "B:a", true)
	for _, u := range []string{"A:b", "B:b", "AB:c"} {
		for _, x := range []string{"A:b", "B:b", "AB:c", "b:A", "A:B", "Ab:", ":Ab", ":ABC"} {
			checkIn(t, l, u, x, u == x)
		}
	}
	checkIn(t, l, "A:b", "A:a", false)
	checkIn(t, l, "B:b", "B:a", false)
	checkAbove(t, l, "A:b", "B:a")
	checkAbove(t, l, "A:a", "")
	checkBelow(t, l, "A:a", "B:b")
	checkBelow(t, l, "B:a", "A:b")
	checkCircle(t, l, "B:a", "B:b A:a", false)
	checkCircle(t, l, "B:a", "A:b", true)
	checkCircle(t, l, "A:a", "B:a a:A", false)
}

func TestP901Circle(t *testing.T) {
	l := world("a b", "b c", "c", "d b z", "e")
	for _, c := range []struct {
		u, parents string
		want       bool
	}{
		{"a", "", false},
		{"a", "a", true}, // itself
		{"a", "b c d e", false},
		{"a", "z", false},      // not there
		{"a", "z y x a", true}, // itself behind others
		{"b", "a", true},       // its child
		{"b", "d", true},       // another one
		{"c", "e z d", true},   // over one more step
		{"c", "a", true},
		{"c", "e z", false},
		{"z", "d", true}, // one that is not there itself
		{"z", "a b c e y", false},
		{"y", "a b c d e z", false},
		{"y", "y", true},
	} {
		checkCircle(t, l, c.u, c.parents, c.want)
	}
}

// What u's own parents are does not count; ways into u by others do.
func TestP901CircleWithoutOwnParents(t *testing.T) {
	for _, own := range []string{"a", "a a", "a b", "a b d", "a z", "a a b c d e z"} {
		l := world(own, "b c", "c", "d a", "e d")
		checkCircle(t, l, "a", "", false)
		checkCircle(t, l, "a", "b", false)
		checkCircle(t, l, "a", "b c z y", false)
		checkCircle(t, l, "a", "d", true)
		checkCircle(t, l, "a", "b e", true)
		checkCircle(t, l, "a", "c a", true)
	}
	// There is a circle already: of those in it the way leads into u, of those above it none does.
	l := world("a b", "b a c", "c")
	checkCircle(t, l, "a", "b", true)
	checkCircle(t, l, "a", "c", false)
	checkCircle(t, l, "b", "a", true)
	checkCircle(t, l, "c", "a", true)
	// A circle that u is not in is none of u's.
	l = world("a", "b c", "c b")
	checkCircle(t, l, "a", "b", false)
	checkCircle(t, l, "a", "b c", false)
}

// Nothing is promised of rows that do not stand by their uids, or have two of one, but that each call ends.
func TestP1OddRows(t *testing.T) {
	some := []string{"a", "b", ":", "\xff:\xff", "T:\x00"}
	for _, x := range some {
		for _, y := range some {
			for _, z := range some {
				l := []api.Entity{{U: uid(x), Parents: uids(y + " " + z)}, {U: uid(y), Parents: uids(x)}, {U: uid(z)}, {U: uid(x), Parents: uids(x)}}
				before := dump(l)
				for _, u := range some {
					above.Above(l, uid(u))
					above.Below(l, uid(u))
					above.In(l, uid(u), uid(z))
					above.Circle(l, uid(u), uids(x+" "+x+" "+y))
				}
				if dump(l) != before {
					t.Fatalf("%q, %q, %q: changed", x, y, z)
				}
			}
		}
	}
}

// Of an entity only its uid and its parents count: attributes are not gone into, not even where a set holds itself.
func TestP1Attributes(t *testing.T) {
	endless := api.Value{Kind: api.VSet, L: make([]api.Value, 1)}
	endless.L[0] = endless
	l := world("a b", "b c", "c")
	for i := range l {
		l[i].Attrs = []api.Attr{{Name: "a", V: endless}, {}, {Name: "u", V: api.Value{Kind: api.VUid, U: uid("z")}}}
	}
	checkAbove(t, l, "a", "b c")
	checkBelow(t, l, "c", "a b")
	checkIn(t, l, "a", "c", true)
	checkIn(t, l, "a", "z", false)
	checkCircle(t, l, "c", "z a", true)
}
