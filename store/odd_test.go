package store_test

import (
	"fmt"
	"math"
	"math/rand"
	"strings"
	"testing"

	"chancel/api"
	"chancel/decide"
	"chancel/store"
)

// endless is a set that holds itself; so does its list, whatever kind it is of.
func endless(kind int) api.Value {
	l := make([]api.Value, 2)
	l[0], l[1] = api.Value{Kind: kind, L: l}, api.Value{Kind: api.VLong, N: 1}
	return l[0]
}

func TestP1OfValuesThatHoldThemselves(t *testing.T) {
	for kind := range 7 {
		for at := range 4 {
			w := worldOf(usual(t))
			w.Es[3].Attrs[at].V = endless(kind)
			checkOf(t, fmt.Sprint(kind), w, api.ErrBad)
			w.Es[3].Attrs[at].V = api.Value{Kind: api.VSet, L: []api.Value{endless(kind)}}
			checkOf(t, fmt.Sprint(kind), w, api.ErrBad)
		}
	}
}

func oddText(r *rand.Rand) string {
	return pick(r, "", "a", "b", "A", "B", "\xff", "principal", "action", "Action", "go", "n", "*", strings.Repeat("x", 40))
}

func oddUid(r *rand.Rand) api.Uid { return uid(oddText(r), oddText(r)) }

func oddNumber(r *rand.Rand) int {
	return pick(r, math.MinInt, -1, 0, 1, 1, 2, 2, 3, 4, 5, 6, 25, math.MaxInt)
}

// oddTree has any operations, with anything in them, and any kids.
func oddTree(r *rand.Rand, depth int) api.Expr {
	e := api.Expr{Op: r.Intn(28) - 1, B: r.Intn(2) == 0, N: int64(oddNumber(r)), S: oddText(r), U: oddUid(r)}
	if depth > 1 {
		for range r.Intn(4) {
			e.Kids = append(e.Kids, oddTree(r, depth-1))
		}
	}
	return e
}

// oddly changes one thing of a world at random, so that it need not be sound, nor such as may be handed in.
func oddly(r *rand.Rand, w *world) {
	e, k, a, p := &w.Es[r.Intn(len(w.Es))], &w.S.Kinds[r.Intn(len(w.S.Kinds))], &w.S.Actions[r.Intn(len(w.S.Actions))], &w.Ps[r.Intn(len(w.Ps))]
	switch r.Intn(14) {
	case 0:
		e.U = oddUid(r)
	case 1:
		e.Parents = append(e.Parents, oddUid(r))
	case 2:
		e.Attrs = append(e.Attrs, api.Attr{Name: oddText(r), V: api.Value{Kind: oddNumber(r), S: oddText(r)}})
	case 3:
		w.Es = append(w.Es, *e)
	case 4:
		k.Name = oddText(r)
	case 5:
		k.Parents = append(k.Parents, oddText(r))
	case 6:
		k.Fields = append(k.Fields, api.Field{Name: oddText(r), Type: api.Type{Kind: oddNumber(r), Of: oddNumber(r), Name: oddText(r)}})
	case 7:
		a.Name = oddText(r)
	case 8:
		a.Principals, a.Resources = append(a.Principals, oddText(r)), append(a.Resources, oddText(r))
	case 9:
		p.Name = oddText(r)
	case 10:
		p.P.Principal = api.Scope{Kind: oddNumber(r), U: pick(r, oddUid(r), e.U)}
	case 11:
		p.P.Action = api.Scope{Kind: oddNumber(r), U: pick(r, oddUid(r), uid("Action", a.Name))}
	case 12:
		p.P.Conds = append(p.P.Conds, api.Cond{Unless: true, E: oddTree(r, 1+r.Intn(4))})
	case 13:
		p.P.Conds = append(p.P.Conds, api.Cond{E: api.Expr{Op: api.OBool, N: -1, S: oddText(r), B: true}})
	}
}

// useAll makes each call of a store, some of them odd: all of them end, and none panics.
func useAll(r *rand.Rand, s *store.Store) {
	worldOf(s)
	for range 5 {
		s.Ask(api.Request{Principal: oddUid(r), Action: oddUid(r), Resource: oddUid(r)})
		s.Ask(pick(r, requests()...))
		c := randomChange(r)
		s.Apply(c.kind, pick(r, c.name, oddText(r)), pick(r, c.text, oddText(r)))
		s.Sound()
	}
}

// What may not be handed in to Of is left alone, and answered the same again; what it makes of it can be asked and changed.
func TestP1OfOddThings(t *testing.T) {
	r := rand.New(rand.NewSource(3))
	count := map[api.Errno]int{}
	for range 3000 {
		w := worldOf(usual(t))
		for range 1 + r.Intn(3) {
			oddly(r, &w)
		}
		before := dump(w)
		s, err := store.Of(w.S, w.Ps, w.Es)
		again, same := store.Of(w.S, w.Ps, w.Es)
		count[err]++
		if err != same || (s == nil) != (err != api.OK) || (again == nil) != (s == nil) {
			t.Fatalf("%v, %v; of %s", err, same, before)
		}
		if dump(w) != before {
			t.Fatalf("changed: %s; was %s", dump(w), before)
		}
		if s == nil {
			continue
		}
		if dump(worldOf(s)) != before || !s.Sound() {
			t.Fatalf("it keeps %s; want %s", dump(worldOf(s)), before)
		}
		useAll(r, s)
	}
	if len(count) != 3 || count[api.OK] < 100 || count[api.ErrName] < 100 || count[api.ErrBad] < 1000 {
		t.Errorf("%v", count)
	}
}

func TestP1AskOddRequests(t *testing.T) {
	r := rand.New(rand.NewSource(4))
	for _, s := range []*store.Store{store.New(), usual(t), rich(t)} {
		before := shown(s)
		for range 1000 {
			q := api.Request{Principal: oddUid(r), Action: oddUid(r), Resource: oddUid(r)}
			if got, want := told(s.Ask(q)), told(decide.All(s.Entities(), q, s.Policies())); got != want {
				t.Errorf("%v: %s; want %s", q, got, want)
			}
		}
		if shown(s) != before {
			t.Error("changed")
		}
	}
}

// Fronts and backs of texts that are taken, and texts with a byte turned, are answered; what is refused changes nothing.
func TestP1ApplyOddTexts(t *testing.T) {
	r := rand.New(rand.NewSource(5))
	texts := []string{source, permit, forbid, `A::"x" in A::"a", B::"b" { n: 1 };`, `C::"x"` + fineC, `C::"c"`}
	for _, text := range texts {
		for at := range len(text) {
			turned := []byte(text)
			turned[at] ^= byte(1 << r.Intn(8))
			for _, odd := range []string{text[:at], text[at:], string(turned)} {
				for kind := range 7 {
					s := usual(t)
					before := kept(s)
					err := s.Apply(kind, pick(r, "", "", "p", "new"), odd)
					if !s.Sound() || err != api.OK && kept(s) != before {
						t.Fatalf("%d, %q: %v; of\n%s", kind, odd, err, kept(s))
					}
				}
			}
		}
	}
}

// Trees as deep as may be handed in, and lists much longer than may be.
func TestP1OfDeepAndLong(t *testing.T) {
	deep := api.Expr{Op: api.OBool, B: true}
	for range 99 {
		deep = api.Expr{Op: api.ONot, Kids: []api.Expr{deep}}
	}
	w := worldOf(usual(t))
	w.Ps[0].P.Conds = []api.Cond{{E: deep}}
	if s, err := store.Of(w.S, w.Ps, w.Es); err == api.OK {
		useAll(rand.New(rand.NewSource(6)), s)
	}
	const many = 300000
	w = worldOf(usual(t))
	checkOf(t, "policies", world{w.S, make([]decide.Named, many), w.Es}, api.ErrMany)
	checkOf(t, "entities", world{w.S, w.Ps, make([]api.Entity, many)}, api.ErrBad)
	checkOf(t, "kinds", world{api.Schema{Kinds: make([]api.Kind, many)}, nil, nil}, api.ErrBad)
	checkOf(t, "actions", world{api.Schema{Actions: make([]api.Action, many)}, nil, nil}, api.ErrBad)
	w.Es[0].Parents = make([]api.Uid, many)
	checkOf(t, "parents", w, api.ErrBad)
	long := strings.Repeat("a", 1<<20)
	for kind := range 7 {
		want := []api.Errno{api.ErrKind, api.ErrLong, api.ErrLong, api.ErrArg, api.ErrLong, api.ErrLong, api.ErrKind}[kind]
		name := []string{"", "", "p", "p", "", "", ""}[kind]
		do(t, usual(t), kind, name, long, want)
	}
}

// A store that is a zero value is one that keeps nothing.
func TestP1ZeroStore(t *testing.T) {
	var s store.Store
	checkKept(t, &s)
	do(t, &s, api.CDrop, "p", "", api.ErrNone)
	takes(t, &s, api.CSchema, "", source)
	takes(t, &s, api.CPut, "p", permit)
	takes(t, &s, api.CPut, "f", forbid)
	takesEach(t, &s, api.CEntity, `B::"b" {};`, `A::"b" in B::"b" { n: 1 };`, `A::"a" in A::"b" { n: 1 };`, `C::"c"`+fineC)
	checkKept(t, &s, usualTexts()...)
}
