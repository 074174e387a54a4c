package sess_test

import (
	"testing"

	"chancel/api"
	"chancel/sess"
)

// checkRefused gives changes of all kinds by a client and a number that may not be: none is looked at.
func checkRefused(t *testing.T, client, seq int) {
	t.Helper()
	for _, s := range []*sess.Sess{sess.New(), usual(t)} {
		for _, c := range ofAll() {
			do(t, s, c.by(client, seq), api.ErrArg, false)
		}
	}
}

func TestP1601ClientsThatAreNone(t *testing.T) {
	for _, client := range notClients() {
		for _, seq := range []int{1, 2, 40, 1 << 39, 0, -1} {
			checkRefused(t, client, seq)
		}
	}
}

// A number below 1 is no stale one, whatever the client did so far.
func TestP1601NumbersThatAreNone(t *testing.T) {
	for client := 1; client <= 8; client++ {
		for _, seq := range []int{0, -1, -2, -5, -1 << 40, -1 << 63} {
			checkRefused(t, client, seq)
		}
	}
}

// The first and the last client, and the lowest and a great number, may be.
func TestP1601BoundsThatMayBe(t *testing.T) {
	for client := 1; client <= 8; client++ {
		for _, seq := range []int{1, 2, 255, 256, 257, 1 << 31, 1 << 32, 1<<40 - 1} {
			s := sess.New()
			do(t, s, change{api.CSchema, "", source}.by(client, seq), api.OK, true)
			checkLast(t, s, client, seq, api.OK)
			do(t, s, change{api.CSchema, "", source}.by(client, seq), api.OK, false)
		}
	}
}

// A command that is new is applied, whatever its verdict.
func TestP1601NewCommandsAreApplied(t *testing.T) {
	for _, c := range good() {
		for client := 1; client <= 8; client++ {
			s, st := usual(t), usualStore(t)
			before := kept(st)
			if err := st.Apply(c.kind, c.name, c.text); err != api.OK || kept(st) == before {
				t.Fatalf("%+v: %v, %s", c, err, kept(st))
			}
			last, _ := s.Last(client)
			do(t, s, c.by(client, last+1), api.OK, true)
			checkLast(t, s, client, last+1, api.OK)
			if kept(s.Store()) != kept(st) {
				t.Errorf("%+v: %s; want %s", c, kept(s.Store()), kept(st))
			}
		}
	}
	for _, c := range bad() {
		for client := 1; client <= 8; client++ {
			s := usual(t)
			last, _ := s.Last(client)
			do(t, s, c.by(client, last+1), c.why, true)
			checkLast(t, s, client, last+1, c.why)
			if kept(s.Store()) != kept(usualStore(t)) {
				t.Errorf("%+v: %s; want %s", c, kept(s.Store()), kept(usualStore(t)))
			}
		}
	}
}

// A number below that of the client's last command is stale, at it its verdict comes again, and above it is a new one: with the same change, and with another one.
func TestP1601BelowAtAndAbove(t *testing.T) {
	for _, c := range ofAll() {
		for _, client := range []int{1, 4, 8} {
			s := usual(t)
			last, _ := s.Last(client)
			seq := last + 10
			verdict, now := s.Do(c.by(client, seq))
			if !now {
				t.Fatalf("%+v: %v", c, verdict)
			}
			for _, o := range append(ofAll(), c, c) {
				for _, below := range []int{seq - 1, seq - 2, seq - 9, 1} {
					do(t, s, o.by(client, below), api.ErrStale, false)
				}
				do(t, s, o.by(client, seq), verdict, false)
				checkLast(t, s, client, seq, verdict)
			}
			for _, o := range []change{c, entity(3), {9, "", ""}} {
				st := again(t, s).Store()
				want := st.Apply(o.kind, o.name, o.text)
				seq++
				do(t, s, o.by(client, seq), want, true)
				checkLast(t, s, client, seq, want)
				if kept(s.Store()) != kept(st) {
					t.Errorf("%+v: %s; want %s", o, kept(s.Store()), kept(st))
				}
			}
		}
	}
}

// The command ahead of the last one is stale: its verdict is not told again.
func TestP1601OnlyTheLastOneComesAgain(t *testing.T) {
	s := usual(t)
	do(t, s, change{9, "", ""}.by(1, 1), api.ErrKind, true)
	do(t, s, entity(2).by(1, 2), api.OK, true)
	do(t, s, change{9, "", ""}.by(1, 1), api.ErrStale, false)
	do(t, s, entity(2).by(1, 2), api.OK, false)
	do(t, s, change{api.CDrop, "x", ""}.by(1, 3), api.ErrNone, true)
	do(t, s, entity(2).by(1, 2), api.ErrStale, false)
	do(t, s, change{api.CDrop, "x", ""}.by(1, 3), api.ErrNone, false)
}

// Numbers may leave some out: what is left out is stale from then on.
func TestP1601Gaps(t *testing.T) {
	s := usual(t)
	seqs := []int{3, 4, 100, 101, 1 << 20, 1 << 39, 1<<39 + 2}
	ahead := 0
	for i, seq := range seqs {
		do(t, s, entity(i).by(7, seq), api.OK, true)
		for _, left := range []int{ahead, ahead + 1, seq - 1} {
			if left > 0 && left < seq {
				do(t, s, entity(50).by(7, left), api.ErrStale, false)
			}
		}
		checkLast(t, s, 7, seq, api.OK)
		ahead = seq
	}
}

// Each client has numbers of its own: what one does counts for no other.
func TestP1601EachClientByItself(t *testing.T) {
	s := usual(t)
	was := map[int]string{}
	for client := 1; client <= 8; client++ {
		was[client] = lastOf(s, client)
	}
	for client := 8; client >= 1; client-- {
		seq, _ := s.Last(client)
		do(t, s, change{api.CDrop, "x", ""}.by(client, seq+3), api.ErrNone, true)
		do(t, s, entity(client).by(client, seq+4), api.OK, true)
		do(t, s, change{9, "", ""}.by(client, seq+7), api.ErrKind, true)
		checkLast(t, s, client, seq+7, api.ErrKind)
		was[client] = lastOf(s, client)
		for other := range was {
			if lastOf(s, other) != was[other] {
				t.Errorf("%d: of %d %s; was %s", client, other, lastOf(s, other), was[other])
			}
		}
	}
}
