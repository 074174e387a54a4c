package eval_test

import (
	"math/rand"
	"slices"
	"strings"
	"testing"

	"chancel/api"
	"chancel/ents"
	"chancel/eval"
	"chancel/fit"
	"chancel/parse"
	"chancel/schema"
	"chancel/show"
	"chancel/types"
	"chancel/value"
)

// source has a field of each type there is.
const source = `
entity A in A, B { b: Bool, l: Long, s: String, u: B, v: A };
entity B in B { b: Set<Bool>, l: Set<Long>, s: Set<String>, u: Set<A>, v: Set<B> };
entity C in A, C { A: C, l: Long };
action A: C -> A;
action a: A, B -> B, C;
action b: A -> A, B, C;
`

func pick[T any](r *rand.Rand, l []T) T { return l[r.Intn(len(l))] }

// maker makes entities, requests, and trees of types, and now and then such as do not fit.
type maker struct {
	r     *rand.Rand
	s     api.Schema
	noise int // one of so many slips; 0: none
}

func drawn(t *testing.T, r *rand.Rand, noise int) maker {
	t.Helper()
	s, err := parse.Schema(source)
	if err != api.OK || schema.Check(s) != api.OK {
		t.Fatal(err, schema.Check(s))
	}
	return maker{r, s, noise}
}

func (m maker) slips() bool { return m.noise > 0 && m.r.Intn(m.noise) == 0 }

// word is a type as the maker calls it.
func word(of api.Type) string {
	kind := of.Kind
	if kind == api.TSet {
		return "Set " + word(api.Type{Kind: of.Of, Name: of.Name})
	}
	return []string{"", "Bool", "Long", "String", of.Name}[kind]
}

// words are those of single types, entities' last.
func words() []string { return strings.Fields("Bool Long String A B C Action") }

func (m maker) uid(kind string) api.Uid {
	if kind == "Action" {
		return uid(kind, pick(m.r, []string{"A", "a", "b"}))
	}
	return uid(kind, pick(m.r, []string{"a", "b", "c", "d"}))
}

func (m maker) long() int64 {
	return pick(m.r, []int64{0, 1, 2, 3, 4, 7, 1 << 31, 1 << 62, 1<<63 - 1})
}

// single is a value of a type that is no set's.
func (m maker) single(want string) api.Value {
	switch want {
	case "Bool":
		return truth(m.r.Intn(2) == 0)
	case "Long":
		return long(m.long() - m.long())
	case "String":
		return str(pick(m.r, []string{"", "a", "b", "ab", "aba", "*"}))
	}
	return api.Value{Kind: api.VUid, U: m.uid(want)}
}

func (m maker) value(want string) api.Value {
	if m.slips() {
		want = pick(m.r, words())
	}
	base, isSet := strings.CutPrefix(want, "Set ")
	if !isSet {
		return m.single(want)
	}
	var l []api.Value
	for range m.r.Intn(5) {
		l = append(l, m.single(base))
	}
	v, _ := value.Set(l...)
	return v
}

// row is entities, not all that there may be. Each has parents of a higher rank, so that there are no circles but by slips.
func (m maker) row(t *testing.T) []api.Entity {
	t.Helper()
	var all []api.Uid
	for _, k := range m.s.Kinds {
		for _, id := range []string{"a", "b", "c", "d"} {
			if m.r.Intn(4) > 0 {
				all = append(all, uid(k.Name, id))
			}
		}
	}
	rank := m.r.Perm(len(all))
	var l []api.Entity
	for i, u := range all {
		l = append(l, m.entity(u, func(k int) bool { return rank[k] > rank[i] }, all))
	}
	if err := ents.Check(l); err != api.OK {
		t.Fatalf("%v: %+v", err, l)
	}
	return l
}

func (m maker) entity(u api.Uid, mayStandIn func(int) bool, all []api.Uid) api.Entity {
	e := api.Entity{U: u}
	k, _ := schema.Kind(m.s, u.Type)
	for _, f := range k.Fields {
		if !m.slips() {
			e.Attrs = append(e.Attrs, api.Attr{Name: f.Name, V: m.value(word(f.Type))})
		}
	}
	for i, p := range all {
		may := mayStandIn(i) && slices.Contains(k.Parents, p.Type)
		if len(e.Parents) < api.MaxParents && (may && m.r.Intn(3) == 0 || m.slips()) {
			e.Parents = append(e.Parents, p)
		}
	}
	return e
}

func (m maker) request(t *testing.T) api.Request {
	t.Helper()
	a := pick(m.r, m.s.Actions)
	r := api.Request{Principal: m.uid(pick(m.r, a.Principals)), Action: uid("Action", a.Name), Resource: m.uid(pick(m.r, a.Resources))}
	if err := schema.Fits(m.s, r); err != api.OK {
		t.Fatalf("%+v: %v", r, err)
	}
	if m.slips() {
		r.Principal, r.Action = r.Action, r.Principal
	}
	return r
}

// rule is a node that is of a wanted type, with kids of types.
type rule struct {
	op   int
	s    string
	kids []string
}

// rules are all that make a type, but for leaves: some drawn anew each time.
func (m maker) rules(want string) []rule {
	l := []rule{{api.OIf, "", []string{"Bool", want, want}}}
	for _, k := range m.s.Kinds {
		for _, f := range k.Fields {
			if word(f.Type) == want {
				l = append(l, rule{api.OGet, f.Name, []string{k.Name}})
			}
		}
	}
	if base, is := strings.CutPrefix(want, "Set "); is {
		return append(l, rule{api.OSet, "", slices.Repeat([]string{base}, 1+m.r.Intn(api.MaxSet))}, rule{api.OSet, "", []string{base, base}})
	}
	numbers, truths := []string{"Long", "Long"}, []string{"Bool", "Bool"}
	switch want {
	case "Long":
		l = append(l, rule{api.ONeg, "", numbers[:1]}, rule{api.OMul, "", numbers}, rule{api.OAdd, "", numbers}, rule{api.OSub, "", numbers})
	case "Bool":
		some, one, other := pick(m.r, words()), pick(m.r, words()[3:]), pick(m.r, words()[3:])
		for op := api.OLess; op <= api.OMost; op++ {
			l = append(l, rule{op, "", numbers})
		}
		for _, op := range []int{api.OSame, api.OOther} {
			l = append(l, rule{op, "", []string{some, some}}, rule{op, "", []string{"Set " + some, "Set " + some}}, rule{op, "", []string{one, other}})
		}
		l = append(l,
			rule{api.OAnd, "", truths}, rule{api.OOr, "", truths}, rule{api.ONot, "", truths[:1]}, rule{api.OLike, pick(m.r, []string{"*", "a*", "*b*", "a*a", ""}), []string{"String"}},
			rule{api.OHas, pick(m.r, []string{"A", "l", "u", "x"}), []string{one}}, rule{api.OHolds, "", []string{"Set " + some, some}},
			rule{api.OIn, "", []string{one, other}}, rule{api.OIn, "", []string{one, one}}, rule{api.OIn, "", []string{one, "Set " + other}},
		)
	}
	return l
}

// tree is of the wanted type for a request, if nothing slips.
func (m maker) tree(r api.Request, want string, depth int) api.Expr {
	if m.slips() {
		want = pick(m.r, []string{"", "Set "}) + pick(m.r, words())
	}
	base, isSet := strings.CutPrefix(want, "Set ")
	switch {
	case depth > 1 && m.r.Intn(8) > 0:
		by := pick(m.r, m.rules(want))
		e := named(by.op, by.s)
		// One kid goes as deep as may be, so that deep trees are not wide, too.
		deep := m.r.Intn(len(by.kids))
		for i, kid := range by.kids {
			if i == deep {
				e.Kids = append(e.Kids, m.tree(r, kid, depth-1))
			} else {
				e.Kids = append(e.Kids, m.tree(r, kid, depth/2))
			}
		}
		return e
	case isSet && m.slips():
		return node(api.OSet)
	case isSet:
		return node(api.OSet, m.leaf(r, base), m.leaf(r, base))
	}
	return m.leaf(r, want)
}

func (m maker) leaf(r api.Request, want string) api.Expr {
	for i, u := range []api.Uid{r.Principal, r.Action, r.Resource} {
		if u.Type == want && m.r.Intn(2) == 0 {
			return named(api.OVar, []string{"principal", "action", "resource"}[i])
		}
	}
	switch v := m.single(want); v.Kind {
	case api.VBool:
		return api.Expr{Op: api.OBool, B: v.B}
	case api.VLong:
		return api.Expr{Op: api.OLong, N: m.long()}
	case api.VStr:
		return named(api.OStr, v.S)
	default:
		return api.Expr{Op: api.OUid, U: v.U}
	}
}

// checkModel holds what a tree comes to against the model, and tells which error that is.
func checkModel(t *testing.T, l []api.Entity, r api.Request, e api.Expr) (api.Value, api.Errno) {
	t.Helper()
	if err := parse.Check(e); err != api.OK {
		t.Fatalf("%s: %v", show.Expr(e), err)
	}
	want, wrong := model{l, r}.run(e)
	got, err := eval.Expr(l, r, e)
	switch {
	case err != wrong || err != api.OK && !alike(got, api.Value{}):
		t.Fatalf("%s: %v, %#v; want %v, %s; of %+v among %+v", show.Expr(e), err, got, wrong, want, r, l)
	case err == api.OK && (value.Check(got) != api.OK || modelText(got) != want):
		t.Fatalf("%s: %#v; want %s; of %+v among %+v", show.Expr(e), got, want, r, l)
	}
	return got, err
}

func TestP1301AgainstAModel(t *testing.T) {
	m := drawn(t, rand.New(rand.NewSource(1)), 30)
	count, kinds := map[api.Errno]int{}, map[int]int{}
	for range 3000 {
		l, r := m.row(t), m.request(t)
		for range 20 {
			e := m.tree(r, pick(m.r, []string{"", "Set "})+pick(m.r, words()), 1+m.r.Intn(6))
			v, err := checkModel(t, l, r, e)
			count[err]++
			kinds[v.Kind]++
		}
	}
	for _, err := range []api.Errno{api.OK, api.ErrType, api.ErrName, api.ErrGone, api.ErrOver} {
		if count[err] < 500 {
			t.Errorf("%v", count)
		}
	}
	if len(count) != 5 || len(kinds) != 6 {
		t.Errorf("%v, %v", count, kinds)
	}
}

// A tree that is typed, entities that fit, a request that the schema allows: a value of that type, or one of two errors.
func TestP1302TypedTrees(t *testing.T) {
	m := drawn(t, rand.New(rand.NewSource(2)), 0)
	count, kinds, ops := map[api.Errno]int{}, map[string]int{}, map[int]int{}
	for range 3000 {
		l, r := m.row(t), m.request(t)
		if err := fit.All(m.s, l); err != api.OK {
			t.Fatalf("%v: %+v", err, l)
		}
		for range 20 {
			want := pick(m.r, []string{"", "Set "}) + pick(m.r, words())
			e := m.tree(r, want, 1+m.r.Intn(api.MaxDepth-1))
			of, wrong := types.Of(m.s, types.Env{Principal: r.Principal.Type, Action: r.Action.Id, Resource: r.Resource.Type}, e)
			if wrong != api.OK || word(of) != want {
				t.Fatalf("%s: %v, %+v; want %s", show.Expr(e), wrong, of, want)
			}
			v, err := checkModel(t, l, r, e)
			count[err]++
			countOps(e, ops)
			if err == api.OK {
				kinds[want]++
				if !fit.Value(m.s, of, v) {
					t.Fatalf("%s: %#v is none of %s", show.Expr(e), v, want)
				}
			}
		}
	}
	if len(count) != 3 || min(count[api.OK], count[api.ErrOver], count[api.ErrGone]) < 1000 || len(kinds) != 14 || len(ops) != api.OIf {
		t.Errorf("%v, %v, %v", count, kinds, ops)
	}
}

func countOps(e api.Expr, ops map[int]int) {
	ops[e.Op]++
	for _, kid := range e.Kids {
		countOps(kid, ops)
	}
}

// Sets of a tree that is typed never have too many: not of as many kids as there may be, nor those of entities.
func TestP1302NoSetHasTooMany(t *testing.T) {
	l := row(t, `A::"a" { l: [1, 2, 3, 4, 5, 6, 7, 8] };`)
	checkValue(t, l, tree(t, `principal.l == [8, 7, 6, 5, 4, 3, 2, 1]`), truth(true))
	checkValue(t, l, tree(t, `[principal.l == [9, 8, 7, 6, 5, 4, 3, 2], true, 1 == 2, true, true, true, true, principal.l.contains(8)]`), set(truth(false), truth(true)))
}
