package decide_test

import (
	"fmt"
	"reflect"
	"slices"
	"strings"
	"testing"

	"chancel/api"
	"chancel/decide"
)

// spares are what lies behind the ends of lists: each would change an answer, were it asked.
func spares() map[reflect.Type]any {
	no := api.Expr{Op: api.OBool}
	return map[reflect.Type]any{
		reflect.TypeFor[decide.Named](): decide.Named{Name: "spare", P: api.Policy{Forbid: true}},
		reflect.TypeFor[api.Cond]():     api.Cond{E: no},
		reflect.TypeFor[api.Expr]():     no,
		reflect.TypeFor[api.Entity]():   api.Entity{U: uid("Spare", "x"), Parents: []api.Uid{uid("A", "a")}},
		reflect.TypeFor[api.Uid]():      uid("Spare", "x"),
		reflect.TypeFor[api.Attr]():     api.Attr{Name: "spare", V: api.Value{Kind: api.VBool, B: true}},
		reflect.TypeFor[api.Value]():    api.Value{Kind: api.VLong, N: 99},
	}
}

// roomy copies a thing; each list in it has room behind it that is written full.
func roomy[T any](x T) T {
	var own T
	layRoomy(reflect.ValueOf(&own).Elem(), reflect.ValueOf(x), spares())
	return own
}

func layRoomy(to, from reflect.Value, spares map[reflect.Type]any) {
	switch from.Kind() {
	case reflect.Slice:
		n := from.Len()
		all := reflect.MakeSlice(from.Type(), n+2, n+2)
		for i := range n + 2 {
			if i < n {
				layRoomy(all.Index(i), from.Index(i), spares)
			} else {
				all.Index(i).Set(reflect.ValueOf(spares[from.Type().Elem()]))
			}
		}
		to.Set(all.Slice(0, n))
	case reflect.Struct:
		for i := range from.NumField() {
			layRoomy(to.Field(i), from.Field(i), spares)
		}
	default:
		to.Set(from)
	}
}

// everything tells all that things hold, what lies in the spare room of their lists, too.
func everything(all ...any) string {
	var b strings.Builder
	for _, x := range all {
		tell(&b, reflect.ValueOf(x))
	}
	return b.String()
}

func tell(b *strings.Builder, v reflect.Value) {
	switch v.Kind() {
	case reflect.Slice:
		fmt.Fprintf(b, "%d[", v.Len())
		for i := range v.Cap() {
			tell(b, v.Slice(0, v.Cap()).Index(i))
		}
		b.WriteString("]")
	case reflect.Struct:
		for i := range v.NumField() {
			tell(b, v.Field(i))
		}
	default:
		fmt.Fprintf(b, "%#v,", v)
	}
}

// spoil writes into all lists of a thing, into their spare room, too.
func spoil(x any) { spoilIn(reflect.ValueOf(x)) }

func spoilIn(v reflect.Value) {
	switch v.Kind() {
	case reflect.Slice:
		all := v.Slice(0, v.Cap())
		for i := range all.Len() {
			spoilIn(all.Index(i))
			all.Index(i).SetZero()
		}
	case reflect.Struct:
		for i := range v.NumField() {
			spoilIn(v.Field(i))
		}
	}
}

// handed are rows of policies by letters: with reasons, errors, both, and none.
func handed() []string {
	return []string{``, `P`, `p`, `t`, `N`, `PQ`, `PT`, `TP`, `pt`, `QqPp`, `TXGO`, `txgoPQ`, `qTpXN`, `NSUnsu`, `PtQxPgQo`, `PPPPPPPP`, `pTpTpTpT`, letters}
}

// What is handed in is left alone, its spare room too, and is not shared with the answer; what lies in that room is not asked.
func TestP2WhatIsHandedInIsLeftAlone(t *testing.T) {
	for _, letters := range handed() {
		plain := told(answer(t, named(t, letters)))
		l, ps := roomy(usual(t)), roomy(named(t, letters))
		before := everything(l, ps)
		a := decide.All(l, request(), ps)
		if told(a) != plain {
			t.Errorf("%s: %s; without spare room %s", letters, told(a), plain)
		}
		if everything(l, ps) != before {
			t.Errorf("%s: changed", letters)
		}
		spoil(a)
		if everything(l, ps) != before {
			t.Errorf("%s: shared with the answer", letters)
		}
	}
}

func TestP2OneLeavesAlone(t *testing.T) {
	l := roomy(usual(t))
	before := everything(l)
	for letter, p := range outcomes(t) {
		is, wrong := one(t, p)
		p = roomy(p)
		whole := everything(p)
		if got, err := decide.One(l, request(), p); got != is || err != wrong {
			t.Errorf("%c: %v, %v; without spare room %v, %v", letter, got, err, is, wrong)
		}
		if everything(l) != before || everything(p) != whole {
			t.Errorf("%c: changed", letter)
		}
	}
}

// What lies behind the ends is neither a policy, nor a condition, nor an entity.
func TestP2SpareRoomIsNotAsked(t *testing.T) {
	l := roomy(usual(t))
	checkOne(t, l, request(), roomy(api.Policy{}), true, api.OK)
	checkOne(t, l, request(), roomy(policy(t, `permit(principal, action, resource) when { true };`)), true, api.OK)
	for _, text := range []string{`principal in Spare::"x"`, `Spare::"x" has spare`, `principal has spare`, `principal.l.contains(99)`, `Spare::"x" in principal`} {
		checkOne(t, l, request(), roomy(policy(t, `permit(principal, action, resource) when { `+text+` };`)), false, api.OK)
	}
	checkOne(t, l, request(), policy(t, `permit(principal in Spare::"x", action, resource);`), false, api.OK)
	r := request()
	r.Principal = uid("Spare", "x")
	checkOne(t, l, r, policy(t, `permit(principal in A::"a", action, resource);`), false, api.OK)
	if got := told(decide.All(l, request(), roomy(named(t, `P`)))); got != `+0|` {
		t.Error(got)
	}
	if got := told(decide.All(l, request(), named(t, `Ppt`)[:1])); got != `+0|` {
		t.Error(got)
	}
	if got := told(decide.All(l, request(), roomy([]decide.Named{}))); got != `-|` {
		t.Error(got)
	}
}

// An answer stays as it is, whatever becomes of what was handed in, and of other answers.
func TestP2AnswersAreNewMemory(t *testing.T) {
	for _, letters := range handed() {
		l, ps := roomy(usual(t)), roomy(named(t, letters))
		a, other := decide.All(l, request(), ps), decide.All(l, request(), ps)
		before := everything(a)
		spoil(other)
		spoil(l)
		spoil(ps)
		if everything(a) != before {
			t.Errorf("%s: %s; was %s", letters, everything(a), before)
		}
	}
}

// The two lists of one answer share nothing, their spare room neither: what is appended to one is not seen in the other.
func TestP2ListsOfOneAnswer(t *testing.T) {
	for _, letters := range handed() {
		a := answer(t, named(t, letters))
		before := everything(a.Errors)
		spoil(a.Reasons)
		if everything(a.Errors) != before {
			t.Errorf("%s: errors changed with reasons", letters)
		}
		a = answer(t, named(t, letters))
		before = everything(a.Reasons)
		spoil(a.Errors)
		if everything(a.Reasons) != before {
			t.Errorf("%s: reasons changed with errors", letters)
		}
		a = answer(t, named(t, letters))
		reasons, errs := slices.Clone(a.Reasons), slices.Clone(a.Errors)
		for range 20 {
			a.Reasons, a.Errors = append(a.Reasons, "reason"), append(a.Errors, "error")
		}
		if !slices.Equal(a.Reasons[:len(reasons)], reasons) || !slices.Equal(a.Errors[:len(errs)], errs) || slices.Contains(a.Reasons, "error") || slices.Contains(a.Errors, "reason") {
			t.Errorf("%s: %v, %v", letters, a.Reasons, a.Errors)
		}
	}
}

// Policies may share their lists, and stand in the row more than once.
func TestP2ListsThatAreShared(t *testing.T) {
	p := policy(t, `permit(principal, action, resource) when { principal.n == 1 } unless { principal.n == 2 };`)
	shared := p
	shared.Forbid, shared.Conds = true, p.Conds[:1]
	other := api.Policy{Conds: p.Conds[1:]}
	ps := roomy([]decide.Named{{Name: "a", P: p}, {Name: "b", P: other}, {Name: "a", P: p}})
	before := everything(ps)
	if got := told(answer(t, ps)); got != `+a b a|` || everything(ps) != before {
		t.Errorf("%s; %s; was %s", got, everything(ps), before)
	}
	ps = append(ps, decide.Named{Name: "c", P: shared})
	if got := told(answer(t, ps)); got != `-c|` {
		t.Error(got)
	}
}

// Nothing is kept: the same calls in the same order answer the same again, though what they answered and were handed was written into.
func TestP3TheSameAgain(t *testing.T) {
	ask := func(letters string) string {
		l, ps := usual(t), named(t, letters)
		a := decide.All(l, request(), ps)
		all := told(a)
		for _, n := range ps {
			is, err := decide.One(l, request(), n.P)
			all += fmt.Sprint(is, err)
		}
		if again := decide.All(l, request(), ps); told(again) != told(a) {
			t.Errorf("%s: %s; was %s", letters, told(again), told(a))
		}
		spoil(a)
		spoil(l)
		spoil(ps)
		return all
	}
	var first []string
	for _, letters := range handed() {
		first = append(first, ask(letters))
	}
	for range 3 {
		for i, letters := range handed() {
			if again := ask(letters); again != first[i] {
				t.Errorf("%s: %s; was %s", letters, again, first[i])
			}
		}
	}
}
