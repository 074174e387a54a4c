package pack_test

import (
	"math"
	"math/rand"
	"testing"

	"chancel/api"
	"chancel/pack"
)

func TestP704RandomCmds(t *testing.T) {
	r := rand.New(rand.NewSource(2))
	for range 3000 {
		c := randomCmd(r)
		cmds.written(t, c, plainCmd(c))
	}
}

func TestP704RandomMsgs(t *testing.T) {
	r := rand.New(rand.NewSource(3))
	for range 500 {
		m := randomMsg(r)
		msgs.written(t, m, plainMsg(m))
	}
}

func TestP704RandomFrames(t *testing.T) {
	r := rand.New(rand.NewSource(4))
	for range 500 {
		b := randomBytes(r, 65000>>r.Intn(17))
		frames.written(t, b, plainFrame(b))
	}
}

// damaged is b cut, lengthened, or with a few bytes turned.
func damaged(r *rand.Rand, b []byte) []byte {
	b = append([]byte{}, b...)
	switch r.Intn(3) {
	case 0:
		return b[:r.Intn(len(b)+1)]
	case 1:
		return append(b, randomBytes(r, 20)...)
	}
	for range 1 + r.Intn(4) {
		b[r.Intn(len(b))] = byte(r.Intn(256) >> r.Intn(9))
	}
	return b
}

// cmdAboutBounds and msgAboutBounds have what may be, or a little more.
func cmdAboutBounds(r *rand.Rand) api.Cmd {
	return api.Cmd{Client: 7 + r.Intn(3), Seq: r.Intn(9), Kind: 4 + r.Intn(3), Name: string(filled(11+r.Intn(3), 'a')), Text: string(filled(599+r.Intn(3), 'a'))}
}

func msgAboutBounds(r *rand.Rand) api.Msg {
	m := api.Msg{Kind: 13 + r.Intn(4), Members: make([]int, 6+r.Intn(3)), Data: make([]byte, 59999+r.Intn(3))}
	return entriesOf(m, 63+r.Intn(3), 699+r.Intn(3))
}

// Whatever bytes come (P1): no call panics, and what can be read is written as the same bytes.
func TestP704RandomBytes(t *testing.T) {
	r := rand.New(rand.NewSource(6))
	counts := map[api.Errno]int{}
	for range 20000 {
		counts[cmds.settled(t, randomBytes(r, 40))]++
		counts[msgs.settled(t, randomBytes(r, 200))]++
		counts[frames.settled(t, randomBytes(r, 6))]++
		counts[cmds.settled(t, damaged(r, plainCmd(randomCmd(r))))]++
		small := randomMsg(r)
		small.Data = small.Data[:len(small.Data)%50]
		counts[msgs.settled(t, damaged(r, plainMsg(small)))]++
		counts[frames.settled(t, damaged(r, plainFrame(randomBytes(r, 50))))]++
	}
	for range 1000 {
		counts[cmds.settled(t, damaged(r, plainCmd(cmdAboutBounds(r))))]++
		counts[msgs.settled(t, damaged(r, plainMsg(msgAboutBounds(r))))]++
	}
	for _, err := range []api.Errno{api.OK, api.ErrCut, api.ErrMore, api.ErrBad, api.ErrKind, api.ErrArg, api.ErrMany, api.ErrLong} {
		if counts[err] == 0 {
			t.Errorf("%v was never answered", err)
		}
	}
}

// oddMsg may be beyond every bound.
func oddMsg(r *rand.Rand) api.Msg {
	m := randomMsg(r)
	m.Kind = randomInt(r)
	if r.Intn(2) == 0 {
		m.Kind = 1 + r.Intn(15)
	}
	for range r.Intn(3) {
		switch r.Intn(6) {
		case 0:
			m.Terms = make([]int, r.Intn(300))
		case 1:
			m.Kinds = make([]int, r.Intn(300))
		case 2:
			m.Entries = make([][]byte, r.Intn(300))
		case 3:
			m = entriesOf(m, r.Intn(300), r.Intn(3))
		case 4:
			m.Members = make([]int, r.Intn(300))
		case 5:
			m.Data = make([]byte, r.Intn(70000))
		}
	}
	return m
}

// Whatever messages and commands come (P1): no call panics, and beside an error stands nothing (P4).
func TestP1OddOnes(t *testing.T) {
	r := rand.New(rand.NewSource(7))
	before := api.Msg{}
	for range 2000 {
		m := oddMsg(r)
		b, err := pack.Msg(m)
		if err != api.OK && len(b) > 0 {
			t.Fatalf("%v: %.100x", err, b)
		}
		if err == api.OK && string(b) != string(plainMsg(m)) {
			t.Fatalf("%.300s: %.100x", dump(m), b)
		}
		if !pack.SameMsg(m, m) || pack.SameMsg(m, before) || pack.SameMsg(before, m) {
			t.Fatalf("SameMsg of %.300s", dump(m))
		}
		before = m
	}
	for _, n := range []int{0, -1, 1, math.MaxInt64, math.MinInt64} {
		c := api.Cmd{Client: n, Seq: n, Kind: n, Name: string(randomBytes(r, 70000)), Text: string(randomBytes(r, 70000))}
		if b, err := pack.Cmd(c); err == api.OK || len(b) > 0 {
			t.Errorf("%.100s: %v, %.100x", dump(c), err, b)
		}
	}
}
