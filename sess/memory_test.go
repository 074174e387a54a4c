package sess_test

import (
	"slices"
	"testing"

	"chancel/api"
	"chancel/sess"
)

// The rows that Of is given are neither changed nor kept, nor is what lies in their spare room, which is not asked either.
func TestP2OfLeavesItsRowsAlone(t *testing.T) {
	seqs, verdicts := append(usualSeqs(), -1, -2, -3), append(usualVerdicts(), -1, 256, 1000)
	seqsWere, verdictsWere := slices.Clone(seqs), slices.Clone(verdicts)
	unchanged := func(when string) {
		t.Helper()
		if !slices.Equal(seqs, seqsWere) || !slices.Equal(verdicts, verdictsWere) {
			t.Errorf("%s: %v, %d; were %v, %d", when, seqs, verdicts, seqsWere, verdictsWere)
		}
	}
	s := checkOf(t, usualStore(t), seqs[:8], verdicts[:8], api.OK)
	unchanged("Of")
	for client := 1; client <= 8; client++ {
		last, _ := s.Last(client)
		do(t, s, entity(client).by(client, last+2), api.OK, true)
		do(t, s, change{9, "", ""}.by(client, last+5), api.ErrKind, true)
	}
	unchanged("Do")
	s = checkOf(t, usualStore(t), seqs[:8], verdicts[:8], api.OK)
	before := shown(s)
	for i := range seqs {
		seqs[i], verdicts[i] = 99, 99
		if shown(s) != before {
			t.Fatalf("%d is kept: %s; was %s", i, shown(s), before)
		}
	}
	do(t, s, entity(2).by(2, 5), api.OK, false)
	do(t, s, entity(2).by(2, 6), api.OK, true)
	do(t, s, entity(2).by(1, 1), api.OK, true)
}

// Rows that are refused are not changed, either.
func TestP2OfLeavesAloneWhatItRefuses(t *testing.T) {
	for _, n := range []int{7, 8, 9, 11} {
		seqs, verdicts := append(usualSeqs(), -1, -2, -3), append(usualVerdicts(), -1, 256, 1000)
		seqs[6], verdicts[0] = -1, 256
		seqsWere, verdictsWere := slices.Clone(seqs), slices.Clone(verdicts)
		checkOf(t, usualStore(t), seqs[:n], verdicts[:n], api.ErrArg)
		if !slices.Equal(seqs, seqsWere) || !slices.Equal(verdicts, verdictsWere) {
			t.Errorf("%v, %d; were %v, %d", seqs, verdicts, seqsWere, verdictsWere)
		}
	}
}

// Two that were made of the same rows share nothing.
func TestP7SessionsAreApart(t *testing.T) {
	seqs, verdicts := usualSeqs(), usualVerdicts()
	s := checkOf(t, usualStore(t), seqs, verdicts, api.OK)
	for name, o := range map[string]*sess.Sess{
		"of the same rows": checkOf(t, usualStore(t), seqs, verdicts, api.OK),
		"of what it shows": again(t, s),
		"new":              sess.New(),
	} {
		before := shown(s)
		for i, c := range append(ofAll(), good()...) {
			client := i%8 + 1
			last, _ := o.Last(client)
			o.Do(c.by(client, last+1+i%3))
			if shown(s) != before {
				t.Fatalf("%s: by %+v changed to %s; was %s", name, c, shown(s), before)
			}
		}
	}
}

// What a store told stays as it is, whatever is done then, and is not kept: what is written into it counts for nothing.
func TestP2WhatTheStoreToldIsApart(t *testing.T) {
	s := usual(t)
	es, ps := s.Store().Entities(), s.Store().Policies()
	before := shown(s)
	es[0].Attrs[0].Name, es[0].Parents[0], ps[0].Name, ps[0].P.Conds[0].Unless = "m", api.Uid{}, "x", true
	if shown(s) != before {
		t.Errorf("%s; was %s", shown(s), before)
	}
}
