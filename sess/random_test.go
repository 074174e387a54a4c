package sess_test

import (
	"fmt"
	"math/rand"
	"strings"
	"testing"

	"chancel/api"
	"chancel/sess"
	"chancel/store"
)

func pick[T any](r *rand.Rand, l ...T) T { return l[r.Intn(len(l))] }

// model tells the promises once more: all commands that were done, in their order, by what they were handed in as.
type model struct {
	rows []api.Cmd
	errs []api.Errno
}

// at is where a client's last command stands among those that were done; -1, if it did none.
func (m *model) at(client int) int {
	for i := len(m.rows) - 1; i >= 0; i-- {
		if m.rows[i].Client == client {
			return i
		}
	}
	return -1
}

// last is that one's number and verdict.
func (m *model) last(client int) (int, api.Errno) {
	if i := m.at(client); i >= 0 {
		return m.rows[i].Seq, m.errs[i]
	}
	return 0, api.OK
}

// fold is a store of all that was done.
func (m *model) fold() *store.Store {
	st := store.New()
	for _, c := range m.rows {
		st.Apply(c.Kind, c.Name, c.Text)
	}
	return st
}

func (m *model) do(c api.Cmd) (api.Errno, bool) {
	if c.Client < 1 || c.Client > 8 || c.Seq <= 0 {
		return api.ErrArg, false
	}
	seq, err := m.last(c.Client)
	if c.Seq < seq {
		return api.ErrStale, false
	}
	if c.Seq == seq {
		return err, false
	}
	err = m.fold().Apply(c.Kind, c.Name, c.Text)
	m.rows, m.errs = append(m.rows, c), append(m.errs, err)
	return err, true
}

// shown is what a session shows that has done the same.
func (m *model) shown() string {
	all := ""
	for _, client := range clients() {
		seq, err := m.last(client)
		all += fmt.Sprintf("%d: %d, %d\n", client, seq, int(err))
	}
	return all + kept(m.fold())
}

func randomChange(r *rand.Rand) change {
	switch r.Intn(12) {
	case 0:
		return change{api.CSchema, "", source + pick(r, ``, ` action stop: A -> A;`, ` action go: A -> A;`, ` entity B {};`)}
	case 1, 2, 3:
		return change{api.CPut, pick(r, "p", "q", "r", ""), pick(r, permit, forbid, `permit(principal, action == Action::"stop", resource);`, `permit(`)}
	case 4, 5:
		return change{api.CDrop, pick(r, "p", "q", "r", "s"), ""}
	case 6, 7:
		return change{api.CGone, "", `A::"` + pick(r, "a", "b", "c", "d") + `"`}
	case 8:
		return change{pick(r, -1, 0, 6, 1<<40), pick(r, "", "p"), pick(r, "", source, permit, "\xff")}
	}
	return change{api.CEntity, "", `A::"` + pick(r, "a", "b", "c", "d") + `"` + pick(r, ``, ` in A::"a"`, ` in A::"b"`) + ` { n: ` + pick(r, "1", "2", `"1"`) + ` };`}
}

// randomCmd is mostly one that is near to the client's last one.
func randomCmd(r *rand.Rand, m *model) api.Cmd {
	client := 1 + r.Intn(8)
	if r.Intn(10) == 0 {
		client = pick(r, notClients()...)
	}
	seq, _ := m.last(client)
	seq += pick(r, -2, -1, 0, 0, 0, 1, 1, 1, 1, 2, 7)
	if r.Intn(20) == 0 {
		seq = pick(r, 0, -1, 1, -1<<63)
	}
	if i := m.at(client); i >= 0 && r.Intn(3) == 0 {
		c := m.rows[i]
		c.Seq = seq
		return c
	}
	return randomChange(r).by(client, seq)
}

func TestP1601And1602AgainstAModel(t *testing.T) {
	r := rand.New(rand.NewSource(16))
	counts := map[string]int{}
	for range 60 {
		s, m := sess.New(), &model{}
		for i := range 100 {
			c := randomCmd(r, m)
			if i < 2 {
				c = change{api.CSchema, "", source}.by(8, 1)
			}
			want, wantNow := m.do(c)
			do(t, s, c, want, wantNow)
			counts[fmt.Sprint(want, " ", wantNow)]++
			if got := shown(s); got != m.shown() {
				t.Fatalf("%+v: %s; want %s", c, got, m.shown())
			}
			if i%30 == 29 {
				s = again(t, s)
			}
		}
	}
	for _, x := range []string{"arg false", "stale false", "ok false", "ok true", "none false", "none true", "kind false", "kind true", "form true", "is true", "type true", "type false", "name true", "circle true", "busy true", "gone true"} {
		if counts[x] < 5 {
			t.Errorf("%s: %d of %v", x, counts[x], counts)
		}
	}
}

// The same commands in the same order get the same verdicts (P3), whatever other sessions do meanwhile.
func TestP3TheSameAgain(t *testing.T) {
	row := func(seed int64, beside *sess.Sess) string {
		r := rand.New(rand.NewSource(seed))
		s, m := sess.New(), &model{}
		all := ""
		for range 60 {
			c := randomCmd(r, m)
			m.do(c)
			err, now := s.Do(c)
			all += fmt.Sprint(c, err, now, shown(s))
			beside.Do(c)
			beside.Do(entity(8).by(c.Client%8+1, c.Seq))
		}
		return all
	}
	for seed := range int64(5) {
		was := row(seed, sess.New())
		for range 3 {
			if row(seed, usual(t)) != was {
				t.Errorf("%d: not the same", seed)
			}
		}
	}
}

// Whatever is handed in, a call ends, and nothing that is not done changes anything.
func TestP1AnyCommand(t *testing.T) {
	r := rand.New(rand.NewSource(1))
	s := usual(t)
	number := func() int {
		return pick(r, -1<<63, -1, 0, 1, 2, 3, 4, 5, 6, 7, 8, 9, 255, 256, 1<<40, 1<<63-1)
	}
	text := func() string {
		return pick(r, "", "p", "\xff", "\x00", source, permit, `A::"a"`, strings.Repeat("x", 1000), strings.Repeat("\xf0", 601), strings.Repeat("(", 600), strings.Repeat("-", 600))
	}
	for range 20000 {
		c := api.Cmd{Client: number(), Seq: number(), Kind: number(), Name: text(), Text: text()}
		before := done(s)
		seq, verdict := s.Last(c.Client)
		err, now := s.Do(c)
		after, afterVerdict := s.Last(c.Client)
		switch {
		case now && (after != c.Seq || afterVerdict != err || c.Seq <= seq):
			t.Fatalf("%+v: %v; now %d, %v", c, err, after, afterVerdict)
		case !now && (done(s) != before || c.Seq == seq && seq > 0 && err != verdict):
			t.Fatalf("%+v: %v; now %s", c, err, done(s))
		}
	}
	if !s.Store().Sound() {
		t.Error("not sound")
	}
}
