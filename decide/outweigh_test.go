package decide_test

import (
	"math/rand"
	"slices"
	"strings"
	"testing"

	"chancel/decide"
)

// drawn are some policies, by names that count them.
func drawn(t *testing.T, r *rand.Rand, from string) []decide.Named {
	t.Helper()
	var b strings.Builder
	for range r.Intn(9) {
		b.WriteByte(from[r.Intn(len(from))])
	}
	return named(t, b.String())
}

// with is policies with one more among them.
func with(t *testing.T, r *rand.Rand, ps []decide.Named, letter string) []decide.Named {
	t.Helper()
	one := named(t, letter)[0]
	one.Name = "more"
	return slices.Insert(slices.Clone(ps), r.Intn(len(ps)+1), one)
}

// One that forbids and holds outweighs all that permit, wherever it stands; taken away, all is as it was.
func TestP1403OneThatForbids(t *testing.T) {
	r := rand.New(rand.NewSource(1))
	for range 2000 {
		ps := drawn(t, r, `PQPQNsTx`)
		before := answer(t, ps)
		more := with(t, r, ps, string(`pq`[r.Intn(2)]))
		after := answer(t, more)
		if after.Allow || !slices.Equal(after.Reasons, []string{"more"}) || !slices.Equal(after.Errors, before.Errors) {
			t.Fatalf("%s; with one that forbids %s", told(before), told(after))
		}
		less := slices.DeleteFunc(slices.Clone(more), func(n decide.Named) bool { return n.Name == "more" })
		if got := told(answer(t, less)); got != told(before) {
			t.Fatalf("%s; was %s", got, told(before))
		}
	}
	checkAnswer(t, `PPPPPPPPp`, `-8|`)
	checkAnswer(t, `pPPPPPPPP`, `-0|`)
	checkAnswer(t, `PPPPPPPP`, `+0 1 2 3 4 5 6 7|`)
}

// What errs counts for nothing, be it one that permits or forbids: but for Errors all is as without.
func TestP1403WhatErrs(t *testing.T) {
	r := rand.New(rand.NewSource(2))
	for range 2000 {
		ps := drawn(t, r, `PQpqNsTxPPP`)
		before := answer(t, ps)
		after := answer(t, with(t, r, ps, string(lettersThatErr[r.Intn(len(lettersThatErr))])))
		at := slices.Index(after.Errors, "more")
		if after.Allow != before.Allow || !slices.Equal(after.Reasons, before.Reasons) || at < 0 || !slices.Equal(slices.Delete(after.Errors, at, at+1), before.Errors) {
			t.Fatalf("%s; with one that errs %s", told(before), told(after))
		}
	}
}

// One that does not hold changes nothing.
func TestP1403WhatDoesNotHold(t *testing.T) {
	r := rand.New(rand.NewSource(3))
	for range 2000 {
		ps := drawn(t, r, letters)
		before := told(answer(t, ps))
		letter := string(lettersThatDont[r.Intn(len(lettersThatDont))])
		if after := told(answer(t, with(t, r, ps, letter))); after != before {
			t.Fatalf("%s; with %s %s", before, letter, after)
		}
	}
}

// Their order counts for the order of names alone.
func TestP1403OrderCountsForNames(t *testing.T) {
	r := rand.New(rand.NewSource(4))
	for range 2000 {
		ps := drawn(t, r, letters)
		a := answer(t, ps)
		turned := slices.Clone(ps)
		slices.Reverse(turned)
		b := answer(t, turned)
		slices.Reverse(b.Reasons)
		slices.Reverse(b.Errors)
		if told(a) != told(b) {
			t.Fatalf("%s; turned %s", told(a), told(b))
		}
	}
}
