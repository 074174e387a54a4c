package types_test

import (
	"math/rand"
	"slices"
	"strings"
	"testing"

	"chancel/api"
	"chancel/parse"
	"chancel/schema"
	"chancel/show"
	"chancel/types"
)

func pick[T any](r *rand.Rand, l []T) T { return l[r.Intn(len(l))] }

// some are of a list's, as they come.
func some(r *rand.Rand, l []string, least, most int) []string {
	var all []string
	for range least + r.Intn(most-least+1) {
		all = append(all, pick(r, l))
	}
	return all
}

// each are some of a list's, each once, in order.
func each(r *rand.Rand, l []string, least, most int) []string {
	all := some(r, l, least, most)
	slices.Sort(all)
	return slices.Compact(all)
}

func randomSchema(r *rand.Rand) api.Schema {
	var s api.Schema
	kinds := each(r, strings.Fields("A B C D a _"), 1, 6)
	words := append([]string{"Bool", "Long", "String", "Set Bool", "Set Long", "Set String"}, kinds...)
	for _, k := range kinds {
		words = append(words, "Set "+k)
	}
	for _, name := range kinds {
		k := api.Kind{Name: name, Parents: some(r, kinds, 0, 4)}
		for _, f := range each(r, strings.Fields("a b c d A"), 2, 5) {
			k.Fields = append(k.Fields, api.Field{Name: f, Type: typeOf(pick(r, words))})
		}
		s.Kinds = append(s.Kinds, k)
	}
	for _, name := range each(r, strings.Fields("a b c A Action"), 0, 4) {
		s.Actions = append(s.Actions, api.Action{Name: name, Principals: some(r, kinds, 1, 3), Resources: some(r, kinds, 1, 3)})
	}
	return s
}

// maker makes trees of a wanted type, and now and then of another one.
type maker struct {
	r     *rand.Rand
	s     api.Schema
	env   types.Env
	noise int // one of so many is another one; 0: none
}

func (m maker) words() []string {
	words := []string{"Bool", "Long", "String", "Action"}
	for _, k := range m.s.Kinds {
		words = append(words, k.Name)
	}
	return words
}

func (m maker) entity() string { return pick(m.r, m.words()[3:]) }

func (m maker) slips() bool { return m.noise > 0 && m.r.Intn(m.noise) == 0 }

// tree is of the wanted type, if nothing slips.
func (m maker) tree(want string, depth int) api.Expr {
	if m.slips() {
		want = pick(m.r, m.words())
		if m.r.Intn(3) == 0 {
			want = "Set " + want
		}
	}
	if depth > 1 {
		switch m.r.Intn(5) {
		case 0:
			return node(api.OIf, m.tree("Bool", depth-1), m.tree(want, depth-1), m.tree(want, depth-1))
		case 1, 2:
			if e, is := m.got(want, depth); is {
				return e
			}
		}
		switch want {
		case "Bool":
			return m.truth(depth)
		case "Long":
			if m.r.Intn(4) == 0 {
				return node(api.ONeg, m.tree("Long", depth-1))
			}
			return node(pick(m.r, []int{api.OMul, api.OAdd, api.OSub}), m.tree("Long", depth-1), m.tree("Long", depth-1))
		}
	}
	return m.leaf(want, depth)
}

// got is a field of the wanted type, if there is one.
func (m maker) got(want string, depth int) (api.Expr, bool) {
	var l []api.Expr
	for _, k := range m.s.Kinds {
		for _, f := range k.Fields {
			if word(f.Type) == want {
				l = append(l, named(api.OGet, f.Name, entity(k.Name, "")))
			}
		}
	}
	if len(l) == 0 {
		return api.Expr{}, false
	}
	e := pick(m.r, l)
	e.Kids = []api.Expr{m.tree(e.Kids[0].U.Type, depth-1)}
	if m.slips() {
		e.S = pick(m.r, []string{"a", "b", "x"})
	}
	return e, true
}

func (m maker) truth(depth int) api.Expr {
	some, own := pick(m.r, m.words()), m.entity()
	kid := func(word string) api.Expr { return m.tree(word, depth-1) }
	switch m.r.Intn(9) {
	case 0:
		return named(api.OHas, pick(m.r, []string{"a", "x"}), kid(own))
	case 1:
		return named(api.OLike, "*", kid("String"))
	case 2:
		return node(api.ONot, kid("Bool"))
	case 3:
		return node(pick(m.r, []int{api.OLess, api.OLeast, api.OMore, api.OMost}), kid("Long"), kid("Long"))
	case 4:
		return node(pick(m.r, []int{api.OSame, api.OOther}), kid(some), kid(some))
	case 5:
		return node(pick(m.r, []int{api.OSame, api.OOther}), kid(own), kid(m.entity()))
	case 6:
		return node(api.OIn, kid(m.entity()), kid(pick(m.r, []string{own, "Set " + own})))
	case 7:
		return node(api.OHolds, kid("Set "+some), kid(some))
	}
	return node(pick(m.r, []int{api.OAnd, api.OOr}), kid("Bool"), kid("Bool"))
}

func (m maker) leaf(want string, depth int) api.Expr {
	if base, is := strings.CutPrefix(want, "Set "); is {
		if m.slips() {
			return node(api.OSet)
		}
		e := node(api.OSet)
		for range 1 + m.r.Intn(4) {
			e.Kids = append(e.Kids, m.tree(base, max(depth-1, 1)))
		}
		return e
	}
	switch want {
	case "Bool":
		return truth(m.r.Intn(2) == 0)
	case "Long":
		return long(m.r.Int63())
	case "String":
		return named(api.OStr, "a")
	}
	for i, kind := range []string{m.env.Principal, "Action", m.env.Resource} {
		if kind == want && m.r.Intn(2) == 0 {
			return variable([]string{"principal", "action", "resource"}[i])
		}
	}
	return api.Expr{Op: api.OUid, U: m.uid(want)}
}

// uid is one of that type, or by a slip one that is none.
func (m maker) uid(want string) api.Uid {
	if m.slips() {
		return uid(pick(m.r, []string{"E", "Action", want}), pick(m.r, []string{"a", "x"}))
	}
	if want == "Action" && len(m.s.Actions) > 0 {
		return uid(want, pick(m.r, m.s.Actions).Name)
	}
	return uid(want, "a")
}

// drawn is a maker with a schema, and an environment that is the schema's, if it has one.
func drawn(t *testing.T, r *rand.Rand, noise int) maker {
	t.Helper()
	m := maker{r: r, s: randomSchema(r), noise: noise}
	if err := schema.Check(m.s); err != api.OK {
		t.Fatalf("%s: %v", show.Schema(m.s), err)
	}
	m.env = types.Env{Principal: m.s.Kinds[0].Name, Resource: pick(r, m.s.Kinds).Name}
	if l := modelEnvs(m.s, api.Policy{}); len(l) > 0 {
		m.env = pick(r, l)
	}
	return m
}

func TestP1101AgainstAModel(t *testing.T) {
	r := rand.New(rand.NewSource(1))
	count := map[api.Errno]int{}
	for range 30000 {
		m := drawn(t, r, 40)
		e := m.tree(pick(r, m.words()), 1+r.Intn(6))
		want, err := model{m.s, m.env}.of(e)
		if count[err]++; err == api.OK {
			checkType(t, m.s, m.env, e, want)
		} else {
			checkWrong(t, m.s, m.env, e, err)
		}
		if t.Failed() {
			t.Fatal(show.Schema(m.s))
		}
	}
	if len(count) != 3 || min(count[api.OK], count[api.ErrName], count[api.ErrType]) < 1000 {
		t.Errorf("%v", count)
	}
}

// policy is one whose scopes and conditions are mostly such as may be.
func (m maker) policy() api.Policy {
	scope := func(kind string) api.Scope {
		if how := m.r.Intn(4); how == api.SSame || how == api.SIn {
			return api.Scope{Kind: how, U: m.uid(kind)}
		}
		return api.Scope{}
	}
	p := api.Policy{Forbid: m.r.Intn(2) == 0, Principal: scope(m.env.Principal), Action: scope("Action"), Resource: scope(m.env.Resource)}
	for range m.r.Intn(5) {
		p.Conds = append(p.Conds, api.Cond{Unless: m.r.Intn(2) == 0, E: m.tree("Bool", 1+m.r.Intn(3))})
	}
	return p
}

func TestP1102AgainstAModel(t *testing.T) {
	r := rand.New(rand.NewSource(2))
	count := map[api.Errno]int{}
	for range 30000 {
		m := drawn(t, r, 80)
		p := m.policy()
		if got, want := types.Envs(m.s, p), modelEnvs(m.s, p); !slices.Equal(got, want) {
			t.Fatalf("Envs of %s: %v; want %v; %s", show.Policy(p), got, want, show.Schema(m.s))
		}
		want := modelCheck(m.s, p)
		count[want]++
		if checkPolicy(t, m.s, p, want); t.Failed() {
			t.Fatal(show.Schema(m.s))
		}
	}
	if len(count) != 4 || min(count[api.OK], count[api.ErrName], count[api.ErrType], count[api.ErrNone]) < 500 {
		t.Errorf("%v", count)
	}
}

// parts are a tree's nodes; each may be written to in its place.
func parts(e *api.Expr) []*api.Expr {
	l := []*api.Expr{e}
	for i := range e.Kids {
		l = append(l, parts(&e.Kids[i])...)
	}
	return l
}

// Each part of a tree that has a type has one by itself; and any other part of that type may stand in its place.
func TestP1103PartsHaveOneType(t *testing.T) {
	r := rand.New(rand.NewSource(3))
	swapped := 0
	for range 3000 {
		m := drawn(t, r, 0)
		if len(m.s.Actions) == 0 {
			continue
		}
		e := m.tree(pick(r, m.words()), 1+r.Intn(5))
		if parse.Check(e) != api.OK {
			t.Fatal(show.Expr(e))
		}
		whole, err := types.Of(m.s, m.env, e)
		if err != api.OK {
			t.Fatalf("%s: %v; %s", show.Expr(e), err, show.Schema(m.s))
		}
		for _, part := range parts(&e) {
			own, err := types.Of(m.s, m.env, *part)
			if err != api.OK {
				t.Fatalf("%s, a part of %s: %v", show.Expr(*part), show.Expr(e), err)
			}
			before := *part
			*part = m.tree(word(own), 1+r.Intn(3))
			if checkType(t, m.s, m.env, e, word(whole)); t.Failed() {
				t.Fatal(show.Schema(m.s))
			}
			*part = before
			swapped++
		}
	}
	if swapped < 10000 {
		t.Errorf("%d parts", swapped)
	}
}

// A part that errs makes the whole err as it does, wherever it stands, if nothing else is wrong.
func TestP1103PartsThatErr(t *testing.T) {
	r := rand.New(rand.NewSource(4))
	for range 3000 {
		m := drawn(t, r, 0)
		if len(m.s.Actions) == 0 {
			continue
		}
		e := m.tree(pick(r, m.words()), 1+r.Intn(5))
		for _, part := range parts(&e) {
			before := *part
			*part = named(api.OGet, "nothing", variable("action"))
			checkWrong(t, m.s, m.env, e, api.ErrName)
			*part = node(api.OAdd, truth(true), long(1))
			checkWrong(t, m.s, m.env, e, api.ErrType)
			*part = before
		}
		if t.Failed() {
			t.Fatal(show.Schema(m.s))
		}
	}
}
