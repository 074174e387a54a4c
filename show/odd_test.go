package show_test

import (
	"math"
	"math/rand"
	"slices"
	"strings"
	"testing"

	"chancel/api"
)

// same tells whether a call answers the same again (P3); that it ends and does not panic is what it is called for (P1).
func (f face[T]) same(t *testing.T, x T) {
	t.Helper()
	if a, b := f.write(x), f.write(x); a != b {
		t.Errorf("%s, then %s", a, b)
	}
}

// oddTexts are such as may not be in a tree, as texts or as names.
func oddTexts() []string {
	return []string{"", "\xff", "a\x80", "\xed\xa0\x80", "a b", "1", "(", strings.Repeat("é", 1000)}
}

// P1: each operation, and some that are none, with any number of kids, of any fields.
func TestP1NodesThatMayNotBe(t *testing.T) {
	for _, op := range append(allOps(), math.MinInt, -1, 0, 26, 100, math.MaxInt) {
		for n := range 12 {
			for _, kid := range []api.Expr{{}, {Op: 99}, {Op: -5, S: "a"}, long(-1), sample(api.OIf, 1), {Op: api.OIf}, {Op: op}} {
				e := node(op, slices.Repeat([]api.Expr{kid}, n)...)
				exprs.same(t, e)
				e.B, e.N, e.S, e.U = true, math.MinInt64, "\xff", id("\xff", "\xff")
				exprs.same(t, e)
				policies.same(t, api.Policy{Conds: []api.Cond{{E: e}, {Unless: true, E: e}}})
			}
		}
		for _, s := range oddTexts() {
			e := sample(op, -3)
			e.S, e.U = s, id(s, s)
			exprs.same(t, e)
			exprs.same(t, node(api.ONot, node(op, e, e, e)))
		}
	}
}

// P1: trees as deep as the limits allow, and sets of many.
func TestP1DeepAndWideTrees(t *testing.T) {
	for _, op := range allOps() {
		for at := range kidsOf(op) {
			e := long(1)
			for range 99 {
				over := sample(op, 1)
				over.Kids[at] = e
				e = over
			}
			exprs.same(t, e)
		}
	}
	exprs.same(t, node(api.OSet, slices.Repeat([]api.Expr{sample(api.OIf, 1)}, 10000)...))
	policies.same(t, api.Policy{Conds: slices.Repeat([]api.Cond{when(truth(true))}, 10000)})
}

// P1: kids of an operation that has none, or of none at all, are not gone into: there may be more of them than could be.
func TestP1KidsThatNobodyAsksFor(t *testing.T) {
	for _, op := range []int{-1, 0, 26, api.OBool, api.OLong, api.OStr, api.OUid, api.OVar} {
		e := long(1)
		for range 99 {
			e = node(op, e, e, e)
		}
		exprs.same(t, e)
	}
}

func TestP1ScopesAndTypesThatMayNotBe(t *testing.T) {
	for _, kind := range []int{math.MinInt, -1, 0, 1, 2, 3, 4, 5, 6, 99, math.MaxInt} {
		for _, s := range oddTexts() {
			scope := api.Scope{Kind: kind, U: id(s, s)}
			policies.same(t, api.Policy{Principal: scope, Action: scope, Resource: scope})
			uids.same(t, scope.U)
			for of := -1; of < 8; of++ {
				f := api.Field{Name: s, Type: api.Type{Kind: kind, Of: of, Name: s}}
				schemas.same(t, api.Schema{Kinds: []api.Kind{{Name: s, Parents: []string{s, s}, Fields: []api.Field{f, f}}, {}}, Actions: []api.Action{{Name: s, Principals: []string{s}, Resources: []string{s, s}}, {}}})
			}
		}
	}
	schemas.same(t, api.Schema{Kinds: make([]api.Kind, 1000), Actions: make([]api.Action, 1000)})
}

func TestP1ValuesThatMayNotBe(t *testing.T) {
	self := make([]api.Value, 2)
	self[0], self[1] = vSet(self...), vLong(1)
	deep := vSet()
	for range 99 {
		deep = vSet(deep, deep, deep)
	}
	l := []api.Value{{}, vSet(self...), deep, vSet(make([]api.Value, 1000)...), vSet(vLong(2), vStr("1"), vLong(2))}
	for kind := -1; kind < 8; kind++ {
		for _, s := range oddTexts() {
			l = append(l, api.Value{Kind: kind, B: true, N: math.MinInt64, S: s, U: id(s, s), L: []api.Value{vStr(s), {}, vSet(vStr(s))}})
		}
	}
	for _, v := range l {
		entities.same(t, api.Entity{U: v.U, Parents: []api.Uid{v.U, v.U}, Attrs: []api.Attr{{Name: v.S, V: v}, {V: v}}})
	}
	entities.same(t, api.Entity{})
	entities.same(t, api.Entity{Parents: make([]api.Uid, 1000), Attrs: make([]api.Attr, 1000)})
}

// room puts more behind the end of a list, where nobody may write.
func room[T any](l []T, more T) []T {
	return append(slices.Clone(l), more, more, more)[:len(l)]
}

// whole tells all of a list, what stands behind its end too.
func whole[T any](l []T) []T { return l[:cap(l)] }

// roomy gives lists of a tree room behind their ends.
func roomy(e api.Expr) api.Expr {
	for i := range e.Kids {
		e.Kids[i] = roomy(e.Kids[i])
	}
	e.Kids = room(e.Kids, api.Expr{Op: 77})
	return e
}

// wholeTree tells all of a tree, what stands behind the ends of its lists too.
func wholeTree(e api.Expr) string {
	s := dump(whole(e.Kids))
	for _, kid := range e.Kids {
		s += wholeTree(kid)
	}
	return s
}

func wholePolicy(p api.Policy) string {
	s := dump(whole(p.Conds))
	for _, c := range p.Conds {
		s += wholeTree(c.E)
	}
	return s
}

func wholeSchema(s api.Schema) string {
	all := dump(whole(s.Kinds)) + dump(whole(s.Actions))
	for _, k := range s.Kinds {
		all += dump(whole(k.Parents)) + dump(whole(k.Fields))
	}
	for _, a := range s.Actions {
		all += dump(whole(a.Principals)) + dump(whole(a.Resources))
	}
	return all
}

func wholeEntity(e api.Entity) string {
	all := dump(whole(e.Parents)) + dump(whole(e.Attrs))
	for _, a := range e.Attrs {
		all += dump(whole(a.V.L))
	}
	return all
}

func (f face[T]) unchanged(t *testing.T, x T, all func(T) string) {
	t.Helper()
	before := all(x)
	f.same(t, x)
	if after := all(x); after != before {
		t.Fatalf("%s\nis now\n%s", before, after)
	}
}

// P2: what is handed in is not changed, nor its spare room.
func TestP2NothingIsChanged(t *testing.T) {
	r := rand.New(rand.NewSource(5))
	for range 100 {
		exprs.unchanged(t, roomy(randomTree(r, 5)), wholeTree)
		p := randomPolicy(r)
		for i := range p.Conds {
			p.Conds[i].E = roomy(p.Conds[i].E)
		}
		p.Conds = room(p.Conds, unless(long(77)))
		policies.unchanged(t, p, wholePolicy)
	}
	for range 100 {
		s := randomSchema(r)
		for i, k := range s.Kinds {
			s.Kinds[i].Parents, s.Kinds[i].Fields = room(k.Parents, "x"), room(k.Fields, api.Field{Name: "x"})
		}
		for i, a := range s.Actions {
			s.Actions[i].Principals, s.Actions[i].Resources = room(a.Principals, "x"), room(a.Resources, "x")
		}
		s.Kinds, s.Actions = room(s.Kinds, api.Kind{Name: "x"}), room(s.Actions, api.Action{Name: "x"})
		schemas.unchanged(t, s, wholeSchema)
	}
	for range 100 {
		e := randomEntity(r)
		for i, a := range e.Attrs {
			e.Attrs[i].V.L = room(a.V.L, vLong(77))
		}
		e.Parents, e.Attrs = room(e.Parents, id("x", "x")), room(e.Attrs, api.Attr{Name: "x"})
		entities.unchanged(t, e, wholeEntity)
	}
}
