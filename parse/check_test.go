package parse_test

import (
	"math"
	"slices"
	"strings"
	"testing"

	"chancel/api"
	"chancel/parse"
	"chancel/value"
)

// kidsOf tells how many kids an operation has; OSet has any.
func kidsOf(op int) []int {
	switch op {
	case api.OBool, api.OLong, api.OStr, api.OUid, api.OVar:
		return []int{0}
	case api.OGet, api.OHas, api.OLike, api.ONot, api.ONeg:
		return []int{1}
	case api.OIf:
		return []int{3}
	case api.OSet:
		return []int{0, 1, 2, 3, 4, 5, 6, 7, 8}
	}
	return []int{2}
}

// fieldOf tells the field that is an operation's.
func fieldOf(op int) string {
	switch op {
	case api.OBool:
		return "B"
	case api.OLong:
		return "N"
	case api.OStr, api.OVar, api.OGet, api.OHas, api.OLike:
		return "S"
	case api.OUid:
		return "U"
	}
	return ""
}

// fair tells a node of an operation that Check allows, with leaves as its kids.
func fair(op int) api.Expr {
	e := api.Expr{Op: op}
	switch fieldOf(op) {
	case "S":
		e.S = "action"
	case "U":
		e.U = id("A", "b")
	}
	for range kidsOf(op)[0] {
		e.Kids = append(e.Kids, truth(false))
	}
	return e
}

func allOps() []int {
	var l []int
	for op := api.OBool; op <= api.OIf; op++ {
		l = append(l, op)
	}
	return l
}

func checkTree(t *testing.T, e api.Expr, want api.Errno) {
	t.Helper()
	if err := parse.Check(e); err != want {
		t.Errorf("Check(%#v): %v; want %v", e, err, want)
	}
}

func TestP502Operations(t *testing.T) {
	for _, op := range allOps() {
		checkTree(t, fair(op), api.OK)
	}
	for _, op := range []int{math.MinInt, -25, -1, 0, 26, 27, 100, 1 << 32, 1<<32 + 1, math.MaxInt} {
		for n := range 4 {
			e := node(op, slices.Repeat([]api.Expr{truth(true)}, n)...)
			checkTree(t, e, api.ErrKind)
			e.B, e.N, e.S, e.U = true, -1, "\xff", id("", "\xff")
			checkTree(t, e, api.ErrKind)
		}
	}
}

func TestP502CountsOfKids(t *testing.T) {
	for _, op := range allOps() {
		for n := range 12 {
			e := fair(op)
			e.Kids = slices.Repeat([]api.Expr{long(1)}, n)
			want := api.ErrForm
			switch {
			case slices.Contains(kidsOf(op), n):
				want = api.OK
			case op == api.OSet:
				want = api.ErrMany
			}
			checkTree(t, e, want)
			// All that may be told of fields is told behind it.
			e.B, e.N, e.S, e.U = true, -1, "\xff", id("1", "\xff")
			if want == api.OK || op == api.OSet {
				want = api.ErrArg
			}
			checkTree(t, e, want)
		}
	}
	checkTree(t, api.Expr{Op: api.OBool, Kids: []api.Expr{}}, api.OK)
	checkTree(t, api.Expr{Op: api.OSet, Kids: []api.Expr{}}, api.OK)
}

func TestP502FieldsOfOthers(t *testing.T) {
	for _, op := range allOps() {
		for field, set := range map[string]func(*api.Expr){
			"B": func(e *api.Expr) { e.B = true },
			"N": func(e *api.Expr) { e.N = 1 },
			"S": func(e *api.Expr) { e.S = "action" },
			"U": func(e *api.Expr) { e.U = id("A", "b") },
		} {
			e, want := fair(op), api.ErrArg
			set(&e)
			if fieldOf(op) == field {
				want = api.OK
			}
			checkTree(t, e, want)
		}
		for _, u := range []api.Uid{{Type: "A"}, {Id: "b"}} {
			if op != api.OUid {
				e := fair(op)
				e.U = u
				checkTree(t, e, api.ErrArg)
			}
		}
		for _, n := range []int64{-1, math.MinInt64} {
			e := fair(op)
			e.N = n
			checkTree(t, e, api.ErrArg)
		}
	}
	checkTree(t, long(0), api.OK)
	checkTree(t, long(math.MaxInt64), api.OK)
	checkTree(t, truth(true), api.OK)
}

// Fields of others are told ahead of what the own ones have.
func TestP502FieldsOfOthersFirst(t *testing.T) {
	for _, e := range []api.Expr{{Op: api.OStr, S: "\xff"}, {Op: api.OUid}, {Op: api.OVar, S: "x"}, {Op: api.OGet, S: "1", Kids: []api.Expr{{}}}, {Op: api.OHas, Kids: []api.Expr{{}}}, {Op: api.OLike, S: "\xff", Kids: []api.Expr{{}}}, {Op: api.OSet, Kids: make([]api.Expr, 9)}} {
		e.B = true
		checkTree(t, e, api.ErrArg)
		e.B, e.N = false, 1
		checkTree(t, e, api.ErrArg)
	}
}

func TestP502Texts(t *testing.T) {
	for _, s := range []string{"", "a", "\x00", "é", "\"\\", "*", "\ufffd", strings.Repeat("a", 29), strings.Repeat("a", 30), strings.Repeat("😀", 30), strings.Repeat("a", 31), strings.Repeat("é", 31), "\xff", "a\x80", "\xed\xa0\x80", strings.Repeat("a", 40) + "\xff", "\xff" + strings.Repeat("a", 40)} {
		want := value.Check(api.Value{Kind: api.VStr, S: s})
		checkTree(t, str(s), want)
		checkTree(t, named(api.OLike, s, truth(true)), want)
		checkTree(t, uid("A", s), want)
		checkTree(t, uid("1", s), api.ErrName)
	}
	checkTree(t, str(strings.Repeat("é", 30)), api.OK)
	checkTree(t, str(strings.Repeat("a", 31)), api.ErrLong)
	checkTree(t, str("\xff"+strings.Repeat("a", 31)), api.ErrRune)
	checkTree(t, named(api.OLike, strings.Repeat("a", 31), api.Expr{}), api.ErrLong)
	checkTree(t, named(api.OLike, "\xff", api.Expr{}), api.ErrRune)
}

func TestP502Names(t *testing.T) {
	for _, s := range append([]string{"a", "_", "A9", "_0", "abcdefghijkl", "____________"}, words...) {
		checkTree(t, get(truth(true), s), api.OK)
		checkTree(t, named(api.OHas, s, truth(true)), api.OK)
		checkTree(t, uid(s, ""), api.OK)
	}
	for _, s := range []string{"", "1", "9a", "a-b", "a b", " a", "a ", "é", "aé", "\xff", "abcdefghijklm", "a.b", "a::b", "*", "\"a\""} {
		checkTree(t, get(truth(true), s), api.ErrName)
		checkTree(t, get(api.Expr{}, s), api.ErrName)
		checkTree(t, named(api.OHas, s, truth(true)), api.ErrName)
		checkTree(t, uid(s, "b"), api.ErrName)
		checkTree(t, variable(s), api.ErrName)
	}
	for _, s := range []string{"principal", "action", "resource"} {
		checkTree(t, variable(s), api.OK)
	}
	for _, s := range []string{"a", "Principal", "principals", "context", "true", "actio", "resource "} {
		checkTree(t, variable(s), api.ErrName)
	}
}

func TestP502Sets(t *testing.T) {
	for n := range 12 {
		l := slices.Repeat([]api.Expr{long(1)}, n)
		bad := slices.Repeat([]api.Expr{{}}, n)
		switch {
		case n > 8:
			checkTree(t, node(api.OSet, l...), api.ErrMany)
			checkTree(t, node(api.OSet, bad...), api.ErrMany)
		case n > 0:
			checkTree(t, node(api.OSet, l...), api.OK)
			checkTree(t, node(api.OSet, bad...), api.ErrKind)
		}
	}
	// Unlike kinds, and sets in sets, are none of Check's business.
	checkTree(t, node(api.OSet, long(1), str("a"), node(api.OSet, node(api.OSet))), api.OK)
}

// faults are nodes, each with one error of its own.
func faults() map[api.Errno]api.Expr {
	return map[api.Errno]api.Expr{
		api.ErrKind: {Op: 26},
		api.ErrForm: {Op: api.ONot},
		api.ErrArg:  {Op: api.OLong, N: -1},
		api.ErrRune: {Op: api.OStr, S: "\xff"},
		api.ErrLong: {Op: api.OStr, S: strings.Repeat("a", 31)},
		api.ErrName: {Op: api.OVar},
		api.ErrMany: {Op: api.OSet, Kids: slices.Repeat([]api.Expr{{Op: api.OBool}}, 9)},
	}
}

func TestP502OfSeveralFaultsTheFirst(t *testing.T) {
	for first, a := range faults() {
		checkTree(t, a, first)
		for _, b := range faults() {
			checkTree(t, node(api.OAnd, a, b), first)
			checkTree(t, node(api.OSet, truth(true), a, b), first)
			// All of a kid ahead of the next one.
			checkTree(t, node(api.OIf, truth(true), node(api.ONot, node(api.ONot, a)), b), first)
			checkTree(t, node(api.OIf, node(api.OSame, long(1), a), b, b), first)
			// A node ahead of its kids.
			over := fair(api.OHas)
			over.S, over.Kids = "", []api.Expr{b}
			checkTree(t, over, api.ErrName)
			checkTree(t, node(api.ONot, b, b), api.ErrForm)
			checkTree(t, node(26, b), api.ErrKind)
			checkTree(t, api.Expr{Op: api.ONeg, N: 1, Kids: []api.Expr{b}}, api.ErrArg)
		}
	}
}

// under puts e below n nodes; way tells which kid it is.
func under(e api.Expr, n, way int) api.Expr {
	for range n {
		switch way {
		case 0:
			e = node(api.ONot, e)
		case 1:
			e = node(api.OAnd, e, truth(true))
		case 2:
			e = node(api.OAnd, truth(true), e)
		case 3:
			e = node(api.OIf, e, truth(true), truth(false))
		case 4:
			e = node(api.OIf, truth(true), e, truth(false))
		case 5:
			e = node(api.OIf, truth(true), truth(false), e)
		case 6:
			e = node(api.OSet, truth(true), e, truth(false))
		case 7:
			e = get(e, "a")
		case 8:
			e = node(api.OSet, e)
		}
	}
	return e
}

func TestP502Depth(t *testing.T) {
	for way := range 9 {
		for depth := 1; depth <= 100; depth++ {
			e := under(truth(true), depth-1, way)
			if got := parse.Depth(e); got != depth {
				t.Errorf("way %d: Depth %d; want %d", way, got, depth)
			}
			want := api.OK
			if depth > 10 {
				want = api.ErrDeep
			}
			checkTree(t, e, want)
			// Whatever is wrong is told ahead of the depth.
			for err, bad := range faults() {
				checkTree(t, under(bad, depth-1, way), err)
				if depth > 1 {
					checkTree(t, node(api.OAnd, e, bad), err)
				}
			}
		}
	}
	for _, e := range []api.Expr{{}, {Op: 26}, {Op: -1, B: true, N: -5, S: "\xff"}, {Kids: []api.Expr{}}, node(api.OSet), long(1)} {
		if got := parse.Depth(e); got != 1 {
			t.Errorf("Depth(%#v): %d", e, got)
		}
	}
	// Kids count, whatever the operation.
	wide := api.Expr{Kids: []api.Expr{{}, {Kids: []api.Expr{{}, {Op: 99, Kids: []api.Expr{{}}}}}, {}, {Kids: []api.Expr{{}}}}}
	if got := parse.Depth(wide); got != 4 {
		t.Errorf("Depth: %d", got)
	}
	if got := parse.Depth(node(api.OAnd, under(long(1), 3, 0), under(long(1), 5, 1))); got != 7 {
		t.Errorf("Depth: %d", got)
	}
}
