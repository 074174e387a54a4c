package pack_test

import (
	"testing"

	"chancel/api"
	"chancel/pack"
)

// roomy is a list with the same elements, and room behind them that is written full.
func roomy[T any](l []T, with T) []T {
	all := append(append(make([]T, 0, len(l)+3), l...), with, with, with)
	return all[:len(l)]
}

// spoil writes into all that a list has, its spare room too.
func spoil[T any](l []T, with T) {
	l = l[:cap(l)]
	for i := range l {
		l[i] = with
	}
}

// roomyMsg has room behind each of its lists.
func roomyMsg() api.Msg {
	m := someMsg()
	for i := range m.Entries {
		m.Entries[i] = roomy(m.Entries[i], 0xaa)
	}
	m.Terms, m.Kinds, m.Members = roomy(m.Terms, 77), roomy(m.Kinds, 78), roomy(m.Members, 79)
	m.Entries, m.Data = roomy(m.Entries, []byte("spare")), roomy(m.Data, 0xbb)
	return m
}

// whole tells all that a message's lists have, their spare room too.
func whole(m api.Msg) string {
	m.Terms, m.Kinds, m.Members = m.Terms[:cap(m.Terms)], m.Kinds[:cap(m.Kinds)], m.Members[:cap(m.Members)]
	m.Data = m.Data[:cap(m.Data)]
	var entries [][]byte
	for _, e := range m.Entries[:cap(m.Entries)] {
		entries = append(entries, e[:cap(e)])
	}
	m.Entries = entries
	return dump(m)
}

func TestP2MessagesAreLeftAlone(t *testing.T) {
	m, other := roomyMsg(), roomyMsg()
	before := whole(m)
	b := msgs.must(t, m)
	spoil(b, 0xcc)
	pack.SameMsg(m, other)
	m.Kind, other.Kind = 16, 16
	pack.Msg(m)
	m.Kind, other.Kind = someMsg().Kind, someMsg().Kind
	if whole(m) != before || whole(other) != before {
		t.Errorf("changed: %s, %s; want %s", whole(m), whole(other), before)
	}
	if again := msgs.must(t, m); string(again) != string(plainMsg(someMsg())) {
		t.Errorf("the next time: %x", again)
	}
}

// What was written keeps as it is, whatever becomes of the message.
func TestP2MessagesAreNotKept(t *testing.T) {
	m := roomyMsg()
	b := msgs.must(t, m)
	for _, e := range m.Entries {
		spoil(e, 0xcc)
	}
	spoil(m.Data, 0xcc)
	spoil(m.Terms, 1)
	if string(b) != string(plainMsg(someMsg())) {
		t.Errorf("changed: %x", b)
	}
}

// Bytes that are read, framed or summed are left alone, with what stands behind them, also where an answer is written into; and an answer keeps as it is, whatever becomes of them.
func TestP2BytesAreLeftAlone(t *testing.T) {
	plain := []byte("some bytes")
	for name, x := range map[string]struct {
		b    []byte
		call func(b []byte) (answer func() string, spoilt func())
	}{
		"ParseCmd": {plainCmd(someCmd()), func(b []byte) (func() string, func()) {
			c, _ := pack.ParseCmd(b)
			return func() string { return dump(c) }, func() {}
		}},
		"ParseMsg": {plainMsg(someMsg()), func(b []byte) (func() string, func()) {
			m, _ := pack.ParseMsg(b)
			return func() string { return whole(m) }, func() { spoilMsg(m) }
		}},
		"Frame": {plain, func(b []byte) (func() string, func()) {
			f, _ := pack.Frame(b)
			return func() string { return dump(f[:cap(f)]) }, func() { spoil(f, 0xcc) }
		}},
		"Unframe": {plainFrame(plain), func(b []byte) (func() string, func()) {
			f, _ := pack.Unframe(b)
			return func() string { return dump(f[:cap(f)]) }, func() { spoil(f, 0xcc) }
		}},
		"Crc": {plain, func(b []byte) (func() string, func()) {
			sum := pack.Crc(b)
			return func() string { return dump(sum) }, func() {}
		}},
	} {
		b := roomy(x.b, 0xaa)
		before := dump(b[:cap(b)])
		_, spoilt := x.call(b)
		spoilt()
		if after := dump(b[:cap(b)]); after != before {
			t.Errorf("%s: changed: %s; want %s", name, after, before)
		}
		answer, _ := x.call(b)
		first := answer()
		spoil(b, 0xdd)
		if answer() != first {
			t.Errorf("%s: kept: %s; want %s", name, answer(), first)
		}
	}
}

func spoilMsg(m api.Msg) {
	for _, e := range m.Entries {
		spoil(e, 0xcc)
	}
	spoil(m.Entries, []byte("spoilt"))
	spoil(m.Terms, 91)
	spoil(m.Kinds, 92)
	spoil(m.Members, 93)
	spoil(m.Data, 0xcc)
}

// takenOut takes a list out of where it stands, and answers what spoils it.
func takenOut[T any](l *[]T, with T) func() {
	own := *l
	*l = nil
	return func() { spoil(own, with) }
}

// No two lists of a message that is read share any memory, their spare room neither: what is written into one is not to be seen in the rest.
func TestP2NoTwoListsShare(t *testing.T) {
	b := plainMsg(entriesOf(someMsg(), 5, 5))
	for name, takeOut := range map[string]func(m *api.Msg) func(){
		"Terms":      func(m *api.Msg) func() { return takenOut(&m.Terms, 91) },
		"Kinds":      func(m *api.Msg) func() { return takenOut(&m.Kinds, 92) },
		"Members":    func(m *api.Msg) func() { return takenOut(&m.Members, 93) },
		"Data":       func(m *api.Msg) func() { return takenOut(&m.Data, 0xcc) },
		"Entries":    func(m *api.Msg) func() { return takenOut(&m.Entries, []byte("spoilt")) },
		"Entries[0]": func(m *api.Msg) func() { return takenOut(&m.Entries[0], 0xcc) },
		"Entries[2]": func(m *api.Msg) func() { return takenOut(&m.Entries[2], 0xcc) },
		"Entries[4]": func(m *api.Msg) func() { return takenOut(&m.Entries[4], 0xcc) },
	} {
		m, err := pack.ParseMsg(b)
		if err != api.OK {
			t.Fatal(err)
		}
		spoilt := takeOut(&m)
		before := whole(m)
		spoilt()
		if whole(m) != before {
			t.Errorf("%s: the rest is %s; want %s", name, whole(m), before)
		}
	}
}

// Two answers to the same call have nothing in common.
func TestP2AnswersAreNew(t *testing.T) {
	for name, call := range map[string]func() []byte{
		"Cmd":     func() []byte { b, _ := pack.Cmd(someCmd()); return b },
		"Msg":     func() []byte { b, _ := pack.Msg(someMsg()); return b },
		"Frame":   func() []byte { b, _ := pack.Frame([]byte("some bytes")); return b },
		"Unframe": func() []byte { b, _ := pack.Unframe(plainFrame([]byte("some bytes"))); return b },
	} {
		first, other := call(), call()
		want := string(other)
		spoil(first, 0xcc)
		if string(other) != want || string(call()) != want {
			t.Errorf("%s: %x, %x; want %x", name, other, call(), want)
		}
	}
}
