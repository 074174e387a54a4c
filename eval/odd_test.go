package eval_test

import (
	"math"
	"math/rand"
	"reflect"
	"slices"
	"testing"

	"chancel/api"
	"chancel/eval"
)

// endless are sets in sets: one holds itself, one has more in it than could ever be gone through.
func endless() []api.Value {
	l := make([]api.Value, 2)
	l[0], l[1] = set(l...), set(l...)
	deep := set(long(1))
	for range 99 {
		deep = set(deep, deep, long(1))
	}
	return []api.Value{set(l...), deep}
}

// oddValues are others that value.Check refuses.
func oddValues() []api.Value {
	full := func(kind int) api.Value {
		return api.Value{Kind: kind, B: true, N: 1, S: "\xff", U: uid("A", "a"), L: []api.Value{long(1), set(long(2))}}
	}
	l := []api.Value{{}, set(set()), set(set(long(1))), set(api.Value{}), set(long(1), truth(true), ref("A", "a")), set(long(2), long(1), long(1)), set(ref("A", "a"), long(1)), set(ref("B", ""), ref("A", ""), ref("A", "")), str("\xff"), ref("", ""), ref("\xff", "\xff")}
	for _, kind := range []int{math.MinInt, -1, 0, 1, 2, 3, 4, 5, 6, math.MaxInt} {
		l = append(l, full(kind), set(full(kind)), set(full(kind), full(kind)))
	}
	return l
}

// oddNames are names of attributes, ids and types of uids, patterns, and variables.
func oddNames() []string {
	return []string{"", "a", "b", "\xff", "principal", "action", "resource", "*", "*\xff*", "A", "Action"}
}

func oddUid(r *rand.Rand) api.Uid { return uid(pick(r, oddNames()), pick(r, oddNames())) }

// oddRow is entities in no order, some twice, with attributes likewise.
func oddRow(r *rand.Rand, values []api.Value) []api.Entity {
	var l []api.Entity
	for range r.Intn(25) {
		e := api.Entity{U: oddUid(r)}
		for range r.Intn(6) {
			e.Parents = append(e.Parents, oddUid(r))
		}
		for range r.Intn(9) {
			e.Attrs = append(e.Attrs, api.Attr{Name: pick(r, oddNames()), V: pick(r, values)})
		}
		l = append(l, e)
	}
	return l
}

// oddTree has any operations, with anything in them, and any kids.
func oddTree(r *rand.Rand, depth int) api.Expr {
	e := api.Expr{Op: r.Intn(28) - 1, B: r.Intn(2) == 0, N: r.Int63() - r.Int63(), S: pick(r, oddNames()), U: oddUid(r)}
	if depth > 1 {
		for range r.Intn(4) {
			e.Kids = append(e.Kids, oddTree(r, depth-1))
		}
	}
	return e
}

// ask makes a call whose answer is not promised: it ends, answers the same again, nothing beside an error, and no list of what it was handed.
func ask(t *testing.T, l []api.Entity, r api.Request, e api.Expr) api.Errno {
	t.Helper()
	v, err := eval.Expr(l, r, e)
	if again, same := eval.Expr(l, r, e); err != same || !reflect.DeepEqual(v, again) || err != api.OK && !alike(v, api.Value{}) {
		t.Fatalf("%+v: %v, %#v; again %v, %#v", e, err, v, same, again)
	}
	spoil(v)
	return err
}

func TestP1OddTreesAmongOddEntities(t *testing.T) {
	r, values := rand.New(rand.NewSource(3)), append(slices.Concat(oddValues(), endless()), long(math.MinInt64), truth(true), str("a"), set(long(1)))
	fine := 0
	for range 4000 {
		l := oddRow(r, values)
		q := api.Request{Principal: oddUid(r), Action: oddUid(r), Resource: oddUid(r)}
		for range 10 {
			if ask(t, l, q, oddTree(r, 1+r.Intn(5))) == api.OK {
				fine++
			}
		}
	}
	if fine < 1000 {
		t.Errorf("%d", fine)
	}
}

// Of each operation, and of some that are none, with each count of kids.
func TestP1AnyCountOfKids(t *testing.T) {
	ops := []int{math.MinInt, -1, 26, 99, math.MaxInt}
	for op := range api.OIf + 1 {
		ops = append(ops, op)
	}
	l := usual(t)
	for _, kid := range []api.Expr{tree(t, `true`), tree(t, `false`), tree(t, `1`), tree(t, `principal`), tree(t, `[1]`), tree(t, `"a"`), tree(t, `1 + true`), {}} {
		for _, op := range ops {
			for count := range 12 {
				e := named(op, "l", slices.Repeat([]api.Expr{kid}, count)...)
				ask(t, l, request(), e)
				ask(t, nil, api.Request{}, e)
			}
		}
	}
}

// askOf makes calls of each operation, with some kids that come to one attribute.
func askOf(t *testing.T, v api.Value) {
	t.Helper()
	l := []api.Entity{{U: uid("A", "a"), Attrs: []api.Attr{{Name: "x", V: v}}}}
	got := tree(t, `principal.x`)
	ask(t, l, request(), got)
	for op := api.OSet; op <= api.OIf; op++ {
		for _, first := range []api.Expr{got, tree(t, `true`), tree(t, `false`), tree(t, `principal`), tree(t, `[1]`)} {
			ask(t, l, request(), named(op, "x", first))
			ask(t, l, request(), named(op, "x", first, got))
			ask(t, l, request(), named(op, "x", first, got, got))
		}
	}
}

// Whatever stands as an attribute each call ends, and no list of it is answered.
func TestP2OddAttributes(t *testing.T) {
	for i, v := range oddValues() {
		before := everything(v)
		if askOf(t, v); everything(v) != before {
			t.Errorf("%d: %s; was %s", i, everything(v), before)
		}
	}
	for _, v := range endless() {
		if askOf(t, v); v.L[0].Kind != api.VSet || len(v.L[0].L) == 0 {
			t.Errorf("written into: %#v", v.L[0].Kind)
		}
	}
}

// Trees as deep as may be handed in, and wide ones.
func TestP1DeepAndWide(t *testing.T) {
	for op := api.OSet; op <= api.OIf; op++ {
		for _, kids := range []int{1, 2, 3} {
			e := tree(t, `principal`)
			for range 99 {
				e = named(op, "u", e)
				for len(e.Kids) < kids {
					e.Kids = append(e.Kids, tree(t, `true`))
				}
			}
			ask(t, usual(t), request(), e)
		}
	}
	wide := node(api.OSet)
	for range 200000 {
		wide.Kids = append(wide.Kids, tree(t, `principal`))
	}
	checkValue(t, usual(t), wide, set(ref("A", "a")))
	wide.Kids[199999] = tree(t, `principal.x`)
	checkErr(t, usual(t), wide, api.ErrName)
}
