package sess_test

import (
	"testing"

	"chancel/api"
	"chancel/sess"
	"chancel/store"
)

func TestP1601New(t *testing.T) {
	s := sess.New()
	for _, client := range clients() {
		checkLast(t, s, client, 0, api.OK)
	}
	if got, want := kept(s.Store()), kept(store.New()); got != want {
		t.Errorf("%s; want %s", got, want)
	}
}

// A new one and one of a new store, of no client anything done, are alike.
func TestP1601NewAndOfNothing(t *testing.T) {
	s, o := sess.New(), checkOf(t, store.New(), make([]int, 8), make([]api.Errno, 8), api.OK)
	if shown(s) != shown(o) {
		t.Errorf("%s; want %s", shown(o), shown(s))
	}
	for i, c := range good() {
		checkAlike(t, s, o, c.by(i%8+1, i+1))
	}
}

// checkAlike gives a command to two sessions, which must answer and become the same.
func checkAlike(t testing.TB, s, o *sess.Sess, c api.Cmd) {
	t.Helper()
	err, now := s.Do(c)
	if otherErr, otherNow := o.Do(c); err != otherErr || now != otherNow {
		t.Errorf("Do of %+v: %v, %v; the other one's: %v, %v", c, err, now, otherErr, otherNow)
	}
	if shown(s) != shown(o) {
		t.Errorf("Do of %+v: %s; the other one: %s", c, shown(s), shown(o))
	}
}

// What New answers is nobody else's.
func TestP7NewOnesAreApart(t *testing.T) {
	s, o := sess.New(), sess.New()
	before := shown(o)
	do(t, s, change{api.CSchema, "", source}.by(1, 1), api.OK, true)
	do(t, s, entity(1).by(2, 3), api.OK, true)
	if shown(o) != before {
		t.Errorf("changed to %s", shown(o))
	}
	do(t, o, entity(1).by(2, 3), api.ErrName, true)
	do(t, o, change{api.CSchema, "", source}.by(1, 1), api.OK, true)
	checkLast(t, s, 2, 3, api.OK)
	checkLast(t, o, 2, 3, api.ErrName)
}
