package parse_test

import (
	"math/rand"
	"slices"
	"strconv"
	"strings"
	"testing"

	"chancel/api"
	"chancel/parse"
)

// listsOf tells the lists of kids of all nodes.
func listsOf(e api.Expr) [][]api.Expr {
	l := [][]api.Expr{e.Kids}
	for _, k := range e.Kids {
		l = append(l, listsOf(k)...)
	}
	return l
}

// spoil writes into all that a list has, its spare room too.
func spoil[T any](l []T, with T) {
	l = l[:cap(l)]
	for i := range l {
		l[i] = with
	}
}

// checkApart tells whether what is written into one list of an answer is to be seen in another, or in a later answer. The call answers the lists anew each time; show tells all that one has.
func checkApart[T any](t *testing.T, what string, call func() [][]T, with T, show func([]T) string) {
	t.Helper()
	before := call()
	for i := range before {
		l := call()
		spoil(l[i], with)
		for k := range l {
			if k != i && show(l[k]) != show(before[k]) {
				t.Errorf("%s: lists %d and %d share", what, i, k)
			}
		}
		for k, later := range call() {
			if show(later) != show(before[k]) {
				t.Errorf("%s: list %d is otherwise the next time", what, k)
			}
		}
	}
}

// showAll tells all that a list has, its spare room too.
func showAll[T any](l []T) string {
	return dump(l[:cap(l)])
}

// showOps tells the operations alone: what stands further down is in lists of its own.
func showOps(l []api.Expr) string {
	var ops []string
	for _, e := range l[:cap(l)] {
		ops = append(ops, strconv.Itoa(e.Op))
	}
	return strings.Join(ops, " ")
}

func TestP2NoTwoListsShare(t *testing.T) {
	checkApart(t, "kids", func() [][]api.Expr {
		e, _ := parse.Expr(`[1 - 2 - 3, principal.a.contains(1).b, if 1 then [2, 3] else [], -!4 * 5 has a, 1, 2, 3]`)
		return listsOf(e)
	}, api.Expr{Op: 99}, showOps)
	checkApart(t, "names", func() [][]string {
		s, _ := parse.Schema(`entity A in B, C, D {}; entity B in C, D, E {}; action a: A, B, C -> B, C, D; action b: A -> B;`)
		return [][]string{s.Kinds[0].Parents, s.Kinds[1].Parents, s.Actions[0].Principals, s.Actions[0].Resources, s.Actions[1].Principals, s.Actions[1].Resources}
	}, "x", showAll[string])
	checkApart(t, "fields", func() [][]api.Field {
		s, _ := parse.Schema(`entity A {c: Long, b: Long, a: Long}; entity B {c: Long, b: Long, a: Long}; entity C {a: Long};`)
		return [][]api.Field{s.Kinds[0].Fields, s.Kinds[1].Fields, s.Kinds[2].Fields}
	}, api.Field{Name: "x"}, showAll[api.Field])
	checkApart(t, "sets", func() [][]api.Value {
		e, _ := parse.Entity(`A::"b" {c: [3, 2, 1], b: [3, 2, 1], a: [1]};`)
		return [][]api.Value{e.Attrs[0].V.L, e.Attrs[1].V.L, e.Attrs[2].V.L}
	}, api.Value{Kind: 99}, showAll[api.Value])
	checkApart(t, "parents", func() [][]api.Uid {
		e, _ := parse.Entity(`A::"b" in C::"d", A::"b", C::"d" {};`)
		return [][]api.Uid{e.Parents}
	}, id("x", "y"), showAll[api.Uid])
	checkApart(t, "conditions", func() [][]api.Cond {
		p, _ := parse.Policy(`permit(principal, action, resource) when {1} unless {2} when {3};`)
		return [][]api.Cond{p.Conds}
	}, api.Cond{Unless: true}, showAll[api.Cond])
}

// Check and Depth leave alone what they are handed, its spare room too.
func TestP2TreesAreNotChanged(t *testing.T) {
	r := rand.New(rand.NewSource(3))
	for range 300 {
		e := randomTree(r, 6)
		e.Kids = append(slices.Clone(e.Kids), api.Expr{Op: 77}, api.Expr{Op: 78})[:len(e.Kids)]
		before, spare := dump(e), dump(e.Kids[:len(e.Kids)+2])
		parse.Check(e)
		parse.Depth(e)
		if dump(e) != before || dump(e.Kids[:len(e.Kids)+2]) != spare {
			t.Fatalf("changed: %s", before)
		}
	}
}
