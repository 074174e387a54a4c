package pack_test

import (
	"math/rand"
	"slices"
	"testing"

	"chancel/api"
	"chancel/pack"
)

// unlikeMsgs are messages of which no two are the same.
func unlikeMsgs() []api.Msg {
	l := []api.Msg{someMsg(), {}}
	for _, f := range []func(m *api.Msg){
		func(m *api.Msg) { m.From++ },
		func(m *api.Msg) { m.From = -m.From },
		func(m *api.Msg) { m.To++ },
		func(m *api.Msg) { m.From, m.To = m.To, m.From },
		func(m *api.Msg) { m.Kind++ },
		func(m *api.Msg) { m.Kind += 256 },
		func(m *api.Msg) { m.Term++ },
		func(m *api.Msg) { m.Index++ },
		func(m *api.Msg) { m.Index += 1 << 32 },
		func(m *api.Msg) { m.Last++ },
		func(m *api.Msg) { m.Commit++ },
		func(m *api.Msg) { m.Seq++ },
		func(m *api.Msg) { m.Yes = false },
		func(m *api.Msg) { m.Terms[0]++ },
		func(m *api.Msg) { m.Terms[2]++ },
		func(m *api.Msg) { m.Terms = m.Terms[:2] },
		func(m *api.Msg) { m.Terms = nil },
		func(m *api.Msg) { m.Terms = append(m.Terms, 0) },
		func(m *api.Msg) { m.Kinds[0]++ },
		func(m *api.Msg) { m.Kinds[2]++ },
		func(m *api.Msg) { m.Kinds = m.Kinds[:2] },
		func(m *api.Msg) { m.Kinds = nil },
		func(m *api.Msg) { m.Kinds = append(m.Kinds, 0) },
		func(m *api.Msg) { m.Terms, m.Kinds = m.Kinds, m.Terms },
		func(m *api.Msg) { m.Entries[0][3]++ },
		func(m *api.Msg) { m.Entries[0] = m.Entries[0][:3] },
		func(m *api.Msg) { m.Entries[1] = []byte{0} },
		func(m *api.Msg) { m.Entries[2] = nil },
		func(m *api.Msg) { m.Entries = m.Entries[:2] },
		func(m *api.Msg) { m.Entries = nil },
		func(m *api.Msg) { m.Entries = append(m.Entries, nil) },
		func(m *api.Msg) { slices.Reverse(m.Entries) },
		func(m *api.Msg) { m.Members[0]++ },
		func(m *api.Msg) { slices.Reverse(m.Members) },
		func(m *api.Msg) { m.Members = m.Members[:1] },
		func(m *api.Msg) { m.Members = nil },
		func(m *api.Msg) { m.Members = append(m.Members, 0) },
		func(m *api.Msg) { m.Data[0]++ },
		func(m *api.Msg) { m.Data = m.Data[:4] },
		func(m *api.Msg) { m.Data = nil },
		func(m *api.Msg) { m.Data = append(m.Data, 0) },
	} {
		l = append(l, msgWith(f))
	}
	return l
}

func TestP702SameMsg(t *testing.T) {
	l, others := unlikeMsgs(), unlikeMsgs()
	for i := range l {
		for k := range others {
			if pack.SameMsg(l[i], others[k]) != (i == k) {
				t.Errorf("%s, %s: %v", dump(l[i]), dump(others[k]), i != k)
			}
		}
	}
}

// No list and an empty one are the same (P2), and spare room is none of a list's.
func TestP702SameLists(t *testing.T) {
	empty := api.Msg{Terms: []int{}, Kinds: []int{}, Entries: [][]byte{}, Members: []int{}, Data: []byte{}}
	spare := api.Msg{Terms: make([]int, 0, 3), Kinds: make([]int, 0, 3), Entries: make([][]byte, 0, 3), Members: make([]int, 0, 3), Data: make([]byte, 0, 3)}
	for _, a := range []api.Msg{{}, empty, spare} {
		for _, b := range []api.Msg{{}, empty, spare} {
			if !pack.SameMsg(a, b) {
				t.Errorf("%#v, %#v: false", a, b)
			}
		}
	}
	a, b := api.Msg{Entries: [][]byte{nil, {}}}, api.Msg{Entries: [][]byte{{}, nil}}
	if !pack.SameMsg(a, b) {
		t.Error("entries of nothing: false")
	}
	if pack.SameMsg(a, api.Msg{}) || pack.SameMsg(api.Msg{}, a) {
		t.Error("entries of nothing, and no entries: true")
	}
}

// Lists that are nil and empty are written as the same bytes, and refused alike.
func TestP2NilAndEmpty(t *testing.T) {
	bare := plainMsg(api.Msg{Kind: 1})
	msgs.written(t, api.Msg{Kind: 1, Terms: []int{}, Kinds: []int{}, Entries: [][]byte{}, Members: []int{}, Data: []byte{}}, bare)
	msgs.written(t, api.Msg{Kind: 1, Terms: []int{}, Entries: [][]byte{}, Data: []byte{}}, bare)
	one := api.Msg{Kind: 1, Terms: []int{1}, Kinds: []int{2}, Entries: [][]byte{nil}}
	msgs.written(t, one, plainMsg(one))
	one.Entries = [][]byte{{}}
	msgs.written(t, one, plainMsg(one))
	frames.written(t, nil, make([]byte, 4))
	frames.written(t, []byte{}, make([]byte, 4))
	if pack.Crc(nil) != pack.Crc([]byte{}) {
		t.Error("Crc of nil, and of nothing")
	}
}

func TestP702SameRandom(t *testing.T) {
	r := rand.New(rand.NewSource(5))
	before := randomMsg(r)
	for range 500 {
		m := randomMsg(r)
		read, err := pack.ParseMsg(msgs.must(t, m))
		if err != api.OK || !pack.SameMsg(read, m) || !pack.SameMsg(m, read) {
			t.Fatalf("%v: %s", err, dump(m))
		}
		if pack.SameMsg(m, before) {
			t.Fatalf("the same: %s, %s", dump(m), dump(before))
		}
		before = m
	}
}
