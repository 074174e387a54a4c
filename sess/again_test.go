package sess_test

import (
	"testing"

	"chancel/api"
)

// What comes again, however often and whatever others do meanwhile, gets the verdict that it had, and changes neither the store nor any client's last (do holds what a session shows against what it showed).
func TestP1602WhatComesAgainChangesNothing(t *testing.T) {
	for _, c := range ofAll() {
		for client := 1; client <= 8; client++ {
			s := usual(t)
			last, _ := s.Last(client)
			verdict, now := s.Do(c.by(client, last+1))
			if !now {
				t.Fatalf("%+v: %v", c, verdict)
			}
			do(t, s, c.by(client, last+1), verdict, false)
			do(t, s, c.by(client, last+1), verdict, false)
			other := client%8 + 1
			otherLast, _ := s.Last(other)
			s.Do(change{api.CPut, "z", forbid}.by(other, otherLast+1))
			s.Do(entity(9).by(other, otherLast+2))
			do(t, s, c.by(client, last+1), verdict, false)
		}
	}
}

// An error stays the verdict, though the command could be done by now.
func TestP1602AnErrorComesAgain(t *testing.T) {
	s := usual(t)
	put, drop, gone := change{api.CPut, "x", `permit(principal, action == Action::"stop", resource);`}, change{api.CDrop, "y", ""}, change{api.CGone, "", `A::"b"`}
	do(t, s, put.by(1, 1), api.ErrName, true)
	do(t, s, drop.by(4, 1), api.ErrNone, true)
	do(t, s, gone.by(6, 1), api.ErrBusy, true)
	do(t, s, change{api.CSchema, "", source + ` action stop: A -> A;`}.by(2, 6), api.OK, true)
	do(t, s, change{api.CPut, "y", permit}.by(2, 7), api.OK, true)
	do(t, s, change{api.CGone, "", `A::"a"`}.by(2, 8), api.OK, true)
	do(t, s, put.by(1, 1), api.ErrName, false)
	do(t, s, drop.by(4, 1), api.ErrNone, false)
	do(t, s, gone.by(6, 1), api.ErrBusy, false)
	do(t, s, put.by(1, 2), api.OK, true)
	do(t, s, drop.by(4, 2), api.OK, true)
	do(t, s, gone.by(6, 2), api.OK, true)
}

// OK stays the verdict, though the command could not be done any more, and what it did is undone.
func TestP1602AnOkComesAgain(t *testing.T) {
	s := usual(t)
	drop, gone, put := change{api.CDrop, "p", ""}, change{api.CGone, "", `A::"c"`}, entity(4)
	do(t, s, drop.by(1, 1), api.OK, true)
	do(t, s, gone.by(4, 1), api.OK, true)
	do(t, s, put.by(6, 1), api.OK, true)
	do(t, s, drop.by(1, 1), api.OK, false)
	do(t, s, gone.by(4, 1), api.OK, false)
	do(t, s, entity(5).by(7, 1), api.OK, true)
	do(t, s, put.by(6, 1), api.OK, false)
	do(t, s, change{api.CPut, "p", forbid}.by(8, 41), api.OK, true)
	do(t, s, drop.by(1, 1), api.OK, false)
	do(t, s, drop.by(1, 2), api.OK, true)
	do(t, s, drop.by(1, 3), api.ErrNone, true)
	do(t, s, drop.by(1, 2), api.ErrStale, false)
	do(t, s, drop.by(1, 3), api.ErrNone, false)
}

// The same command by another client, or by another number, is another one.
func TestP1602TheSameByAnotherIsDone(t *testing.T) {
	s := usual(t)
	drop := change{api.CDrop, "p", ""}
	do(t, s, drop.by(1, 1), api.OK, true)
	do(t, s, drop.by(4, 1), api.ErrNone, true)
	do(t, s, drop.by(1, 2), api.ErrNone, true)
	do(t, s, drop.by(4, 1), api.ErrNone, false)
	do(t, s, drop.by(1, 1), api.ErrStale, false)
}

// A verdict that Of was given comes again, be it one that Apply never tells.
func TestP1602VerdictsThatOfWasGiven(t *testing.T) {
	for verdict := range api.Errno(256) {
		seqs, verdicts := usualSeqs(), usualVerdicts()
		seqs[3], verdicts[3] = 6, verdict
		s := checkOf(t, usualStore(t), seqs, verdicts, api.OK)
		do(t, s, entity(2).by(4, 6), verdict, false)
		do(t, s, entity(2).by(4, 5), api.ErrStale, false)
		do(t, s, entity(2).by(4, 6), verdict, false)
		do(t, s, entity(2).by(4, 7), api.OK, true)
		do(t, s, entity(2).by(4, 7), api.OK, false)
		do(t, s, entity(2).by(4, 6), api.ErrStale, false)
	}
}

// To be asked changes nothing.
func TestP1601AskingChangesNothing(t *testing.T) {
	s := usual(t)
	before := shown(s)
	for range 3 {
		if shown(s) != before {
			t.Fatalf("%s; was %s", shown(s), before)
		}
	}
	do(t, s, entity(2).by(1, 1), api.OK, true)
	if shown(s) == before {
		t.Errorf("as before: %s", before)
	}
}

// The store that is answered shows what is done later, too.
func TestP1601StoreGoesOn(t *testing.T) {
	s := usual(t)
	st := s.Store()
	do(t, s, change{api.CDrop, "p", ""}.by(1, 1), api.OK, true)
	if len(st.Policies()) != 0 || kept(st) != kept(s.Store()) {
		t.Errorf("%s; want %s", kept(st), kept(s.Store()))
	}
}
