package store_test

import (
	"fmt"
	"slices"
	"strings"
	"testing"

	"chancel/api"
	"chancel/decide"
	"chancel/store"
)

// world is what a store is made of.
type world struct {
	S  api.Schema
	Ps []decide.Named
	Es []api.Entity
}

func worldOf(s *store.Store) world {
	return world{s.Schema(), s.Policies(), s.Entities()}
}

// checkOf holds what becomes of a world against a verdict: beside an error there is no store (P4).
func checkOf(t *testing.T, what string, w world, want api.Errno) *store.Store {
	t.Helper()
	s, err := store.Of(w.S, w.Ps, w.Es)
	if err != want || (s != nil) != (want == api.OK) {
		t.Errorf("%s: %v, %v; want %v", what, s != nil, err, want)
	}
	if s != nil && (dump(worldOf(s)) != dump(w) || !s.Sound()) {
		t.Errorf("%s: it keeps %s; want %s", what, dump(worldOf(s)), dump(w))
	}
	return s
}

func TestP1501New(t *testing.T) {
	s := store.New()
	checkKept(t, s)
	if w := worldOf(s); dump(w) != dump(world{}) || !s.Sound() {
		t.Error(dump(w))
	}
	if got := told(s.Ask(request("A a go B b"))); got != "-|" {
		t.Error(got)
	}
	other := store.New()
	takes(t, s, api.CSchema, "", source)
	checkKept(t, other)
}

func TestP1501Of(t *testing.T) {
	for what, s := range map[string]*store.Store{
		"new": store.New(), "a schema": schemed(t), "usual": usual(t), "policies": full(t, api.CPut), "entities": full(t, api.CEntity),
	} {
		o := checkOf(t, what, worldOf(s), api.OK)
		if shown(o) != shown(s) {
			t.Errorf("%s: %s; want %s", what, shown(o), shown(s))
		}
	}
	checkOf(t, "nothing", world{}, api.OK)
	checkOf(t, "empty lists", world{api.Schema{Kinds: []api.Kind{}, Actions: []api.Action{}}, []decide.Named{}, []api.Entity{}}, api.OK)
}

// Of one that keeps the same, commands make the same, and one is not changed by those of another (P7).
func TestP1501OfGoesOnAlike(t *testing.T) {
	s := usual(t)
	o := checkOf(t, "usual", worldOf(s), api.OK)
	for _, x := range []struct {
		kind       int
		name, text string
		want       api.Errno
	}{
		{api.CGone, "", `A::"b"`, api.ErrBusy},
		{api.CGone, "", `A::"a"`, api.OK},
		{api.CDrop, "p", "", api.OK},
		{api.CDrop, "p", "", api.ErrNone},
		{api.CPut, "a", permit, api.OK},
		{api.CEntity, "", `A::"0" in A::"b" { n: 7 };`, api.OK},
		{api.CSchema, "", `entity A in A { n: Long };`, api.ErrName},
		{api.CSchema, "", source + `action x: A -> A;`, api.OK},
	} {
		before := shown(o)
		do(t, s, x.kind, x.name, x.text, x.want)
		if shown(o) != before {
			t.Errorf("%v: changed with another one", x)
		}
		do(t, o, x.kind, x.name, x.text, x.want)
		if shown(o) != shown(s) {
			t.Errorf("%v: %s; want %s", x, shown(o), shown(s))
		}
	}
}

func TestP1501OfTooManyPolicies(t *testing.T) {
	w := worldOf(usual(t))
	const names = "a b c d e f g h i j k l m n o p"
	for n := range 17 {
		want := api.OK
		if n > api.MaxPolicies {
			want = api.ErrMany
		}
		w.Ps = named(t, permit, names[:max(0, 2*n-1)])
		checkOf(t, fmt.Sprint(n), w, want)
	}
	// Ahead of what is wrong with their names, and with all else.
	w.Ps = make([]decide.Named, 9)
	checkOf(t, "without names", w, api.ErrMany)
	w.S = api.Schema{}
	checkOf(t, "without a schema, too", w, api.ErrMany)
	w.Ps = w.Ps[:8]
	checkOf(t, "eight", w, api.ErrName)
}

func TestP1501OfNamesOfPolicies(t *testing.T) {
	w := worldOf(usual(t))
	for _, name := range badNames() {
		for at := range 3 {
			w.Ps = named(t, permit, "a b c")
			w.Ps[at].Name = name
			checkOf(t, name, w, api.ErrName)
		}
	}
	names := goodNames()
	for i, a := range names {
		checkOf(t, a, world{w.S, named(t, permit, a), w.Es}, api.OK)
		for k, b := range names {
			want := api.ErrName
			if i < k {
				want = api.OK
			}
			checkOf(t, a+" "+b, world{w.S, named(t, permit, a+" "+b), w.Es}, want)
		}
	}
	for x, want := range map[string]api.Errno{
		"a b c d": api.OK, "a b d c": api.ErrName, "b a c d": api.ErrName, "a c b d": api.ErrName, "a b c a": api.ErrName,
		"a b b c": api.ErrName, "a a": api.ErrName, "d c b a": api.ErrName, "a b c c": api.ErrName, "a B": api.ErrName,
	} {
		checkOf(t, x, world{w.S, named(t, permit, x), w.Es}, want)
		// Ahead of what is not sound.
		if want == api.OK {
			want = api.ErrBad
		}
		checkOf(t, x, world{api.Schema{}, named(t, permit, x), nil}, want)
		checkOf(t, x, world{w.S, named(t, permit, x), make([]api.Entity, 1)}, want)
	}
}

// unsound are worlds in which one thing is not as it must be.
func unsound(t *testing.T) map[string]func(w *world) {
	t.Helper()
	put := func(text string) func(w *world) {
		return func(w *world) { w.Ps[1].P = policy(t, text) }
	}
	return map[string]func(w *world){
		"a kind without a name":        func(w *world) { w.S.Kinds = append(make([]api.Kind, 1), w.S.Kinds...) },
		"kinds in another order":       func(w *world) { slices.Reverse(w.S.Kinds) },
		"a kind that comes twice":      func(w *world) { w.S.Kinds = append(w.S.Kinds, w.S.Kinds[2]) },
		"too many kinds":               func(w *world) { w.S.Kinds = slices.Repeat(w.S.Kinds, 3) },
		"a field of no kind":           func(w *world) { w.S.Kinds[2].Fields[0].Type.Kind = 9 },
		"an action upon nothing":       func(w *world) { w.S.Actions[1].Resources = nil },
		"actions in another order":     func(w *world) { slices.Reverse(w.S.Actions) },
		"a kind that is gone":          func(w *world) { w.S.Kinds = w.S.Kinds[:2] },
		"no schema":                    func(w *world) { w.S = api.Schema{} },
		"a policy of an action gone":   func(w *world) { w.S.Actions = w.S.Actions[1:] },
		"a policy of no action":        put(`permit(principal, action == Action::"x", resource);`),
		"a policy of no principal":     put(`permit(principal == B::"b", action, resource);`),
		"a policy of a number":         put(`permit(principal, action, resource) when { 1 };`),
		"a policy of no field":         put(`permit(principal, action, resource) when { principal.n == 1 };`),
		"an operation that is none":    func(w *world) { w.Ps[0].P.Conds = make([]api.Cond, 1) },
		"too many entities":            func(w *world) { w.Es = append(w.Es, make([]api.Entity, 13)...) },
		"an entity that is none":       func(w *world) { w.Es[0].U = api.Uid{} },
		"entities in another order":    func(w *world) { w.Es[0], w.Es[1] = w.Es[1], w.Es[0] },
		"an entity that comes twice":   func(w *world) { w.Es = append(w.Es, w.Es[3]) },
		"a parent that comes twice":    func(w *world) { w.Es[0].Parents = slices.Repeat(w.Es[0].Parents, 2) },
		"an attribute that is none":    func(w *world) { w.Es[0].Attrs[0].V.Kind = 0 },
		"an attribute that has more":   func(w *world) { w.Es[0].Attrs[0].V.S = "x" },
		"a set that does not rise":     func(w *world) { slices.Reverse(w.Es[3].Attrs[1].V.L) },
		"an attribute that is gone":    func(w *world) { w.Es[3].Attrs = w.Es[3].Attrs[1:] },
		"an attribute of another type": func(w *world) { w.Es[0].Attrs[0].V = api.Value{Kind: api.VBool} },
		"an entity of no kind":         func(w *world) { w.Es[3].U.Type = "Z" },
		"a parent that is gone":        func(w *world) { w.Es = slices.Delete(w.Es, 1, 2) },
		"a parent that may be none":    func(w *world) { w.Es[0].Parents = []api.Uid{uid("C", "c")} },
		"an entity above itself":       func(w *world) { w.Es[0].Parents = []api.Uid{w.Es[0].U} },
		"entities in a circle":         func(w *world) { w.Es[1].Parents = []api.Uid{w.Es[0].U} },
	}
}

func TestP1501OfWhatIsNotSound(t *testing.T) {
	all := unsound(t)
	for what, spoilt := range all {
		w := worldOf(usual(t))
		spoilt(&w)
		checkOf(t, what, w, api.ErrBad)
		// Behind what is wrong with names.
		w.Ps[0].Name = ""
		checkOf(t, what, w, api.ErrName)
	}
	if len(all) != 30 {
		t.Error(len(all))
	}
}

// What Apply would not have made in any way may be handed in still, if it is sound: policies of no text that is short enough, entities with the least number.
func TestP1501OfWhatNoTextMakes(t *testing.T) {
	w := worldOf(usual(t))
	w.Es[0].Attrs[0].V.N = -1 << 63
	list := "[" + strings.Repeat(`"`+strings.Repeat("x", 30)+`", `, 7) + `""]`
	text := `permit(principal, action, resource) when {` + list + `.contains("")};`
	if len(text) > api.MaxText {
		t.Fatal(len(text))
	}
	w.Ps[0].P = policy(t, text)
	w.Ps[0].P.Conds = slices.Repeat(w.Ps[0].P.Conds, 4)
	s := checkOf(t, "long policies", w, api.OK)
	if got := told(s.Ask(request("C c stop C c"))); got != "+f|" {
		t.Error(got)
	}
}
