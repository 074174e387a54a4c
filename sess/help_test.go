package sess_test

import (
	"fmt"
	"strings"
	"testing"

	"chancel/api"
	"chancel/sess"
	"chancel/show"
	"chancel/store"
)

// source is a schema's text.
const source = `entity A in A { n: Long }; action go: A -> A;`

// permit is a policy's text that is well typed by source.
const permit = `permit(principal, action, resource) when { principal.n == 1 };`

// forbid is another one.
const forbid = `forbid(principal, action, resource in A::"b");`

// change is what a command does, whoever gives it.
type change struct {
	kind       int
	name, text string
}

// by is the command of a client that does this.
func (c change) by(client, seq int) api.Cmd {
	return api.Cmd{Client: client, Seq: seq, Kind: c.kind, Name: c.name, Text: c.text}
}

// entity is the change that puts A::"a", with a number.
func entity(n int) change { return change{api.CEntity, "", fmt.Sprintf(`A::"a" { n: %d };`, n)} }

// good are changes that can be done to usual's store.
func good() []change {
	return []change{
		{api.CSchema, "", source + ` action stop: A -> A;`},
		{api.CPut, "q", permit},
		{api.CPut, "p", forbid},
		{api.CDrop, "p", ""},
		{api.CEntity, "", `A::"d" in A::"a" { n: 2 };`},
		entity(7),
		{api.CGone, "", `A::"c"`},
	}
}

// refused is a change that can't be done, and why.
type refused struct {
	change
	why api.Errno
}

// bad are changes that can't be done to usual's store, each for another reason.
func bad() []refused {
	return []refused{
		{change{0, "", ""}, api.ErrKind},
		{change{6, "p", permit}, api.ErrKind},
		{change{-1, "", source}, api.ErrKind},
		{change{77, "\xff", "\xff"}, api.ErrKind},
		{change{api.CSchema, "p", source}, api.ErrArg},
		{change{api.CSchema, "", ``}, api.ErrNone},
		{change{api.CPut, "", permit}, api.ErrName},
		{change{api.CPut, "q", permit + "@"}, api.ErrToken},
		{change{api.CPut, "q", permit + permit}, api.ErrForm},
		{change{api.CPut, "q", "\xff"}, api.ErrRune},
		{change{api.CDrop, "q", ""}, api.ErrNone},
		{change{api.CEntity, "", `A::"d" { n: "1" };`}, api.ErrType},
		{change{api.CEntity, "", `A::"d" in A::"e" { n: 1 };`}, api.ErrGone},
		{change{api.CEntity, "", `A::"b" in A::"b" { n: 1 };`}, api.ErrCircle},
		{change{api.CEntity, "", `A::"d" { n: 9223372036854775808 };`}, api.ErrOver},
		{change{api.CEntity, "", `A::"d" in` + strings.Repeat(` A::"a",`, 60) + `;`}, api.ErrMany},
		{change{api.CGone, "", `A::"d"`}, api.ErrNone},
		{change{api.CGone, "", `A::"b"`}, api.ErrBusy},
		{change{api.CGone, "", strings.Repeat(" ", api.MaxText+1)}, api.ErrLong},
	}
}

// ofAll are changes of all kinds: such as can be done to usual's store, and such as can't.
func ofAll() []change {
	all := good()
	for _, c := range bad() {
		all = append(all, c.change)
	}
	return all
}

// usualStore has source, a policy, and entities, of which one is a parent.
func usualStore(t testing.TB) *store.Store {
	t.Helper()
	st := store.New()
	for _, c := range []change{
		{api.CSchema, "", source},
		{api.CPut, "p", permit},
		{api.CEntity, "", `A::"b" { n: 1 };`},
		{api.CEntity, "", `A::"a" in A::"b" { n: 1 };`},
		{api.CEntity, "", `A::"c" { n: 1 };`},
	} {
		if err := st.Apply(c.kind, c.name, c.text); err != api.OK {
			t.Fatalf("%+v: %v", c, err)
		}
	}
	return st
}

// usualSeqs and usualVerdicts are what clients did last: 2 and 5 something that went well, 3 and 8 something that did not, the others nothing.
func usualSeqs() []int { return []int{0, 5, 1, 0, 1 << 39, 0, 0, 40} }

func usualVerdicts() []api.Errno {
	return []api.Errno{0, 0, api.ErrType, 0, 0, 0, 0, 255}
}

// usual is one of these.
func usual(t testing.TB) *sess.Sess {
	t.Helper()
	return checkOf(t, usualStore(t), usualSeqs(), usualVerdicts(), api.OK)
}

// checkOf holds Of's error against the one that is wanted, and answers what it answered.
func checkOf(t testing.TB, st *store.Store, seqs []int, verdicts []api.Errno, want api.Errno) *sess.Sess {
	t.Helper()
	s, err := sess.Of(st, seqs, verdicts)
	if err != want || (s == nil) != (want != api.OK) {
		t.Fatalf("Of numbers %v, verdicts %d: %v, %v; want %v", seqs, verdicts, s, err, want)
	}
	return s
}

// clients are all that there are, and some that are none.
func clients() []int { return append([]int{1, 2, 3, 4, 5, 6, 7, 8}, notClients()...) }

func notClients() []int { return []int{0, 9, -1, 10, -8, 16, 1 << 40, -1 << 40, -1 << 63, 1<<63 - 1} }

// kept is all that a store keeps, as text, whether it is sound, and some decisions.
func kept(st *store.Store) string {
	all := show.Schema(st.Schema()) + fmt.Sprint("\n", st.Sound())
	for _, p := range st.Policies() {
		all += "\n" + p.Name + ": " + show.Policy(p.P)
	}
	for _, e := range st.Entities() {
		all += "\n" + show.Entity(e)
	}
	for _, id := range []string{"a", "b", "c", "d"} {
		all += fmt.Sprintf("\n%+v", st.Ask(request(id)))
	}
	return all
}

// request is one by A::"a", upon an A.
func request(id string) api.Request {
	return api.Request{Principal: api.Uid{Type: "A", Id: "a"}, Action: api.Uid{Type: "Action", Id: "go"}, Resource: api.Uid{Type: "A", Id: id}}
}

// done tells each client's last number and verdict.
func done(s *sess.Sess) string {
	all := ""
	for _, client := range clients() {
		all += fmt.Sprintf("%d: %s\n", client, lastOf(s, client))
	}
	return all
}

// lastOf tells a client's last one.
func lastOf(s *sess.Sess, client int) string {
	seq, err := s.Last(client)
	return fmt.Sprint(seq, ", ", int(err))
}

// shown is all that a session shows.
func shown(s *sess.Sess) string { return done(s) + kept(s.Store()) }

// do does a command, and holds what is answered against what is wanted. Where it is not done now, nothing is changed (P5, P1602).
func do(t testing.TB, s *sess.Sess, c api.Cmd, want api.Errno, wantNow bool) {
	t.Helper()
	before := shown(s)
	if err, now := s.Do(c); err != want || now != wantNow {
		t.Errorf("Do of %.200q: %v, %v; want %v, %v; of\n%s", fmt.Sprint(c), err, now, want, wantNow, before)
	}
	if !wantNow && shown(s) != before {
		t.Errorf("Do of %.200q: changed to\n%s\nit was\n%s", fmt.Sprint(c), shown(s), before)
	}
}

// checkLast holds Last against what is wanted.
func checkLast(t testing.TB, s *sess.Sess, client, seq int, verdict api.Errno) {
	t.Helper()
	if n, err := s.Last(client); n != seq || err != verdict {
		t.Errorf("Last of %d: %d, %d; want %d, %d", client, n, int(err), seq, int(verdict))
	}
}
