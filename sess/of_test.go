package sess_test

import (
	"slices"
	"testing"

	"chancel/api"
	"chancel/sess"
	"chancel/store"
)

// Of what clients did last the k-th number and verdict are client k's.
func TestP1601OfKeepsEachClientsLast(t *testing.T) {
	seqs := []int{11, 22, 33, 44, 55, 66, 77, 88}
	verdicts := []api.Errno{1, 2, 0, 4, 255, 6, 31, 254}
	s := checkOf(t, usualStore(t), seqs, verdicts, api.OK)
	for i := range seqs {
		checkLast(t, s, i+1, seqs[i], verdicts[i])
		do(t, s, entity(i).by(i+1, seqs[i]), verdicts[i], false)
		do(t, s, entity(i).by(i+1, seqs[i]-1), api.ErrStale, false)
	}
	for _, client := range notClients() {
		checkLast(t, s, client, 0, api.OK)
	}
	if got, want := kept(s.Store()), kept(usualStore(t)); got != want {
		t.Errorf("%s; want %s", got, want)
	}
	for i := range seqs {
		do(t, s, entity(i).by(i+1, seqs[i]+1), api.OK, true)
		checkLast(t, s, i+1, seqs[i]+1, api.OK)
	}
}

// Rows of any lengths but of 8 each are refused, be what is in them fine or not.
func TestP1601OfRowsOfOtherLengths(t *testing.T) {
	for _, seqs := range []int{0, 1, 7, 8, 9, 16, 100} {
		for _, verdicts := range []int{0, 1, 7, 8, 9, 16, 100} {
			want := api.ErrArg
			if seqs == 8 && verdicts == 8 {
				want = api.OK
			}
			checkOf(t, usualStore(t), slices.Repeat([]int{1}, seqs), slices.Repeat([]api.Errno{2}, verdicts), want)
			checkOf(t, usualStore(t), make([]int, seqs, 128), make([]api.Errno, verdicts, 128), want)
			checkOf(t, usualStore(t), slices.Repeat([]int{-1}, seqs), slices.Repeat([]api.Errno{256}, verdicts), api.ErrArg)
		}
	}
	checkOf(t, usualStore(t), nil, nil, api.ErrArg)
	checkOf(t, usualStore(t), []int{}, []api.Errno{}, api.ErrArg)
	checkOf(t, usualStore(t), nil, make([]api.Errno, 8), api.ErrArg)
	checkOf(t, usualStore(t), make([]int, 8), nil, api.ErrArg)
}

// A number or a verdict that may not be is refused, whosever it is.
func TestP1601OfNumbersAndVerdicts(t *testing.T) {
	for k := range 8 {
		for seq, want := range map[int]api.Errno{0: 0, 1: 0, 1<<40 - 1: 0, -1: api.ErrArg, -5: api.ErrArg, -1 << 63: api.ErrArg} {
			seqs := usualSeqs()
			seqs[k] = seq
			checkOf(t, usualStore(t), seqs, usualVerdicts(), want)
		}
		for verdict, want := range map[api.Errno]api.Errno{0: 0, 1: 0, 40: 0, 254: 0, 255: 0, 256: api.ErrArg, -1: api.ErrArg, 257: api.ErrArg, 512: api.ErrArg, -256: api.ErrArg, -1 << 63: api.ErrArg, 1<<63 - 1: api.ErrArg} {
			for _, seq := range []int{0, 1, 9} {
				seqs, verdicts := usualSeqs(), usualVerdicts()
				seqs[k], verdicts[k] = seq, verdict
				s := checkOf(t, usualStore(t), seqs, verdicts, want)
				if want == api.OK && seq > 0 {
					checkLast(t, s, k+1, seq, verdict)
				}
			}
		}
	}
}

// Beside the number 0 a verdict counts for nothing: the client did nothing so far.
func TestP1601OfAVerdictOfNothing(t *testing.T) {
	for k := range 8 {
		for _, verdict := range []api.Errno{0, 1, api.ErrBad, 255} {
			seqs, verdicts := usualSeqs(), usualVerdicts()
			seqs[k], verdicts[k] = 0, 0
			s := checkOf(t, usualStore(t), seqs, verdicts, api.OK)
			verdicts[k] = verdict
			o := checkOf(t, usualStore(t), seqs, verdicts, api.OK)
			checkLast(t, o, k+1, 0, api.OK)
			if shown(s) != shown(o) {
				t.Errorf("%s; want %s", shown(o), shown(s))
			}
			do(t, o, entity(2).by(k+1, 0), api.ErrArg, false)
			checkAlike(t, s, o, entity(2).by(k+1, 0))
			checkAlike(t, s, o, entity(2).by(k+1, 1))
			checkLast(t, o, k+1, 1, api.OK)
		}
	}
}

// What is refused leaves the store as it is, and it may be handed in again.
func TestP5OfThatRefusesChangesNothing(t *testing.T) {
	st := usualStore(t)
	before := kept(st)
	checkOf(t, st, make([]int, 7), make([]api.Errno, 8), api.ErrArg)
	checkOf(t, st, make([]int, 8), slices.Repeat([]api.Errno{256}, 8), api.ErrArg)
	checkOf(t, st, slices.Repeat([]int{-1}, 8), make([]api.Errno, 8), api.ErrArg)
	if kept(st) != before {
		t.Errorf("%s; was %s", kept(st), before)
	}
	s := checkOf(t, st, usualSeqs(), usualVerdicts(), api.OK)
	if shown(s) != shown(usual(t)) {
		t.Errorf("%s; want %s", shown(s), shown(usual(t)))
	}
}

// again is one of what a session shows.
func again(t testing.TB, s *sess.Sess) *sess.Sess {
	t.Helper()
	var seqs []int
	var verdicts []api.Errno
	for client := 1; client <= 8; client++ {
		seq, err := s.Last(client)
		seqs, verdicts = append(seqs, seq), append(verdicts, err)
	}
	st, err := store.Of(s.Store().Schema(), s.Store().Policies(), s.Store().Entities())
	if err != api.OK {
		t.Fatalf("%v: %s", err, kept(s.Store()))
	}
	return checkOf(t, st, seqs, verdicts, api.OK)
}

// One of another one's store, numbers and verdicts goes on alike.
func TestP1601OfAnotherOneGoesOnAlike(t *testing.T) {
	all := append(ofAll(), good()...)
	for _, s := range []*sess.Sess{sess.New(), usual(t)} {
		for i, c := range all {
			o := again(t, s)
			if shown(o) != shown(s) {
				t.Fatalf("%s; want %s", shown(o), shown(s))
			}
			client := i%8 + 1
			seq, _ := s.Last(client)
			checkAlike(t, s, o, c.by(client, seq))
			checkAlike(t, s, o, c.by(client, seq-1))
			checkAlike(t, s, o, c.by(client, seq+1))
			checkAlike(t, s, o, c.by(client, seq+1))
			checkAlike(t, s, o, c.by(client, seq))
			checkAlike(t, s, o, c.by(client%8+1, seq+2))
		}
	}
}
