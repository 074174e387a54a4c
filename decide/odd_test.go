package decide_test

import (
	"math"
	"math/rand"
	"reflect"
	"slices"
	"testing"

	"chancel/api"
	"chancel/decide"
)

func oddTexts() []string {
	return []string{"", "a", "b", "\xff", "principal", "action", "resource", "*", "A", "Action"}
}

func oddUid(r *rand.Rand) api.Uid { return uid(pick(r, oddTexts()), pick(r, oddTexts())) }

func oddKind(r *rand.Rand) int {
	return pick(r, []int{math.MinInt, -1, 0, 0, 1, 1, 2, 2, 3, 4, 5, 6, math.MaxInt})
}

// endless is a set that holds itself.
func endless() api.Value {
	l := make([]api.Value, 2)
	l[0], l[1] = api.Value{Kind: api.VSet, L: l}, api.Value{Kind: api.VBool, B: true}
	return l[0]
}

// oddValue may be of no kind, with fields of others, or hold sets.
func oddValue(r *rand.Rand) api.Value {
	v := api.Value{Kind: oddKind(r), B: r.Intn(2) == 0, N: r.Int63() - r.Int63(), S: pick(r, oddTexts()), U: oddUid(r)}
	for range r.Intn(3) {
		v.L = append(v.L, api.Value{Kind: oddKind(r), U: oddUid(r), L: []api.Value{{}, v}})
	}
	return v
}

// oddRow is entities in no order, some twice, with attributes likewise.
func oddRow(r *rand.Rand) []api.Entity {
	var l []api.Entity
	for range r.Intn(25) {
		e := api.Entity{U: oddUid(r)}
		for range r.Intn(6) {
			e.Parents = append(e.Parents, oddUid(r))
		}
		for range r.Intn(6) {
			e.Attrs = append(e.Attrs, api.Attr{Name: pick(r, oddTexts()), V: oddValue(r)})
		}
		l = append(l, e)
	}
	return l
}

// oddTree has any operations, with anything in them, and any kids.
func oddTree(r *rand.Rand, depth int) api.Expr {
	e := api.Expr{Op: r.Intn(28) - 1, B: r.Intn(2) == 0, N: r.Int63() - r.Int63(), S: pick(r, oddTexts()), U: oddUid(r)}
	if depth > 1 {
		for range r.Intn(4) {
			e.Kids = append(e.Kids, oddTree(r, depth-1))
		}
	}
	return e
}

func oddPolicy(r *rand.Rand) api.Policy {
	scope := func() api.Scope { return api.Scope{Kind: oddKind(r), U: oddUid(r)} }
	p := api.Policy{Forbid: r.Intn(2) == 0, Principal: scope(), Action: scope(), Resource: scope()}
	for range r.Intn(6) {
		p.Conds = append(p.Conds, api.Cond{Unless: r.Intn(2) == 0, E: oddTree(r, 1+r.Intn(4))})
	}
	return p
}

// ask makes calls whose answers are not promised: they end, answer the same again, and tell no truth beside an error.
func ask(t *testing.T, l []api.Entity, r api.Request, ps []decide.Named) api.Answer {
	t.Helper()
	for _, n := range ps {
		is, err := decide.One(l, r, n.P)
		if again, same := decide.One(l, r, n.P); is != again || err != same || is && err != api.OK {
			t.Fatalf("%+v: %v, %v; again %v, %v", n.P, is, err, again, same)
		}
	}
	a := decide.All(l, r, ps)
	if again := decide.All(l, r, ps); !reflect.DeepEqual(a, again) || a.Allow && len(a.Reasons) == 0 || len(a.Reasons)+len(a.Errors) > len(ps) {
		t.Fatalf("%+v; again %+v; of %+v", a, again, ps)
	}
	return a
}

func TestP1OddPoliciesAmongOddEntities(t *testing.T) {
	r := rand.New(rand.NewSource(7))
	allowed, erred := 0, 0
	for range 3000 {
		l, q := oddRow(r), api.Request{Principal: oddUid(r), Action: oddUid(r), Resource: oddUid(r)}
		var ps []decide.Named
		for range r.Intn(12) {
			ps = append(ps, decide.Named{Name: pick(r, oddTexts()), P: oddPolicy(r)})
		}
		before := everything(l, ps)
		a := ask(t, l, q, ps)
		spoil(a)
		if everything(l, ps) != before {
			t.Fatalf("changed: %s; was %s", everything(l, ps), before)
		}
		if a.Allow {
			allowed++
		}
		erred += len(a.Errors)
	}
	if allowed < 100 || erred < 1000 {
		t.Errorf("%d, %d", allowed, erred)
	}
}

// Whatever is zero: an empty policy holds, one of an empty condition errs.
func TestP1ZeroThings(t *testing.T) {
	zero := decide.Named{}
	if got := told(ask(t, nil, api.Request{}, []decide.Named{zero, {Name: "f", P: api.Policy{Conds: make([]api.Cond, 3)}}})); got != `+|f` {
		t.Error(got)
	}
	if got := told(ask(t, make([]api.Entity, 20), api.Request{}, slices.Repeat([]decide.Named{zero}, 3))); got != `+  |` {
		t.Error(got)
	}
	for kind := range 3 {
		s := api.Scope{Kind: kind}
		checkOne(t, nil, api.Request{}, api.Policy{Principal: s, Action: s, Resource: s}, true, api.OK)
	}
}

// A scope of no kind is answered, too, whatever it holds.
func TestP1ScopesOfNoKind(t *testing.T) {
	for _, kind := range []int{math.MinInt, -2, -1, 3, 4, 99, math.MaxInt} {
		for _, u := range []api.Uid{{}, uid("A", "a"), uid("\xff", "\xff")} {
			s := api.Scope{Kind: kind, U: u}
			for _, p := range []api.Policy{{Principal: s}, {Action: s, Forbid: true}, {Resource: s}, {Principal: s, Action: s, Resource: s}} {
				ask(t, usual(t), request(), []decide.Named{{Name: "a", P: p}})
			}
		}
	}
}

// An attribute that holds itself is no bar, be it what a condition comes to.
func TestP1EndlessValues(t *testing.T) {
	l := []api.Entity{{U: uid("A", "a"), Attrs: []api.Attr{{Name: "n", V: endless()}, {Name: "x", V: api.Value{Kind: api.VBool, B: true, L: endless().L}}}}}
	var ps []decide.Named
	for _, text := range []string{`principal.n`, `principal.n == principal.n`, `principal.n.contains(true)`, `principal.n.contains(principal.n)`, `principal in principal.n`, `[principal.n] == []`, `principal.x`} {
		for _, effect := range effects() {
			ps = append(ps, decide.Named{Name: text, P: policy(t, effect+`(principal in A::"a", action, resource) when { `+text+` };`)})
		}
	}
	ask(t, l, request(), ps)
	checkOne(t, l, request(), ps[0].P, false, api.ErrType)
	checkOne(t, l, request(), ps[len(ps)-1].P, true, api.OK)
}

// Trees as deep as may be handed in, rows and lists much longer than may be.
func TestP1DeepAndLong(t *testing.T) {
	deep := api.Expr{Op: api.OBool, B: true}
	for range 98 {
		deep = api.Expr{Op: api.ONot, Kids: []api.Expr{deep}}
	}
	checkOne(t, usual(t), request(), api.Policy{Conds: []api.Cond{{E: deep}}}, true, api.OK)
	checkOne(t, usual(t), request(), api.Policy{Conds: []api.Cond{{Unless: true, E: deep}}}, false, api.OK)

	at := func(i int) api.Uid { return uid("P", string(rune(0x10000+i))) }
	const count = 20000
	var l []api.Entity
	for i := range count {
		l = append(l, api.Entity{U: at(i), Parents: []api.Uid{at((i + 1) % count), at((i + 2) % count), at((i + 1) % count)}})
	}
	r := api.Request{Principal: at(0), Action: at(7), Resource: at(count - 1)}
	for u, want := range map[api.Uid]bool{at(count / 2): true, at(count): false} {
		in := api.Scope{Kind: api.SIn, U: u}
		checkOne(t, l, r, api.Policy{Principal: in}, want, api.OK)
		checkOne(t, l, r, api.Policy{Resource: in}, want, api.OK)
		checkOne(t, l, r, api.Policy{Principal: in, Action: in, Resource: in}, want, api.OK)
	}
}
