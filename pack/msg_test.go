package pack_test

import (
	"math"
	"testing"

	"chancel/api"
)

// Where a message's Kind, Yes and count of entries stand among its bytes.
const (
	kindAt    = 16
	yesAt     = 57
	entriesAt = 58
)

// msgWith is a message that may be, changed by f.
func msgWith(f func(m *api.Msg)) api.Msg {
	m := someMsg()
	f(&m)
	return m
}

func TestP702Msg(t *testing.T) {
	head := "\x11\x12\x13\x14\x15\x16\x17\x18" + "\xff\xff\xff\xff\xff\xff\xff\xfe" + "\x09" +
		"\x00\x00\x00\x00\x00\x00\x00\x03" + "\x00\x00\x00\x80\x00\x00\x00\x00" + "\x00\x00\x00\x00\x00\x00\x00\x05" +
		"\xff\xff\xff\xff\xff\xff\xff\xfa" + "\x00\x00\x00\x00\x00\x00\x00\x07" + "\x01"
	entries := "\x03" +
		"\x00\x00\x00\x00\x00\x00\x00\x0b" + "\x00\x00\x00\x00\x00\x00\x00\x15" + "\x00\x04one\x00" +
		"\xff\xff\xff\xff\xff\xff\xff\xf4" + "\x00\x00\x00\x00\x00\x00\x00\x16" + "\x00\x00" +
		"\x00\x00\x00\x00\x00\x00\x00\x0d" + "\xff\xff\xff\xff\xff\xff\xff\xe9" + "\x00\x01\xff"
	members := "\x02" + "\x00\x00\x00\x00\x00\x00\x00\x1f" + "\xff\xff\xff\xff\xff\xff\xff\xe0"
	msgs.written(t, someMsg(), []byte(head+entries+members+"\x00\x05\x00data"))
}

func TestP702Bare(t *testing.T) {
	want := make([]byte, 7*8+2+1+1+2)
	want[kindAt] = 1
	msgs.written(t, api.Msg{Kind: 1}, want)
}

// What each int says stands in its own place, whatever it is.
func TestP702EachInt(t *testing.T) {
	for _, n := range edges() {
		for _, f := range []func(m *api.Msg){
			func(m *api.Msg) { m.From = n },
			func(m *api.Msg) { m.To = n },
			func(m *api.Msg) { m.Term = n },
			func(m *api.Msg) { m.Index = n },
			func(m *api.Msg) { m.Last = n },
			func(m *api.Msg) { m.Commit = n },
			func(m *api.Msg) { m.Seq = n },
			func(m *api.Msg) { m.Terms[1] = n },
			func(m *api.Msg) { m.Kinds[2] = n },
			func(m *api.Msg) { m.Members[1] = n },
		} {
			m := msgWith(f)
			msgs.written(t, m, plainMsg(m))
		}
	}
}

func TestP702EachKind(t *testing.T) {
	for n := range 256 {
		m := msgWith(func(m *api.Msg) { m.Kind = n })
		if 1 <= n && n <= 15 {
			msgs.written(t, m, plainMsg(m))
			continue
		}
		msgs.refused(t, m, api.ErrKind)
		msgs.unread(t, plainMsg(m), api.ErrKind)
	}
	for _, n := range []int{-1, -255, 257, 1<<32 + 1, math.MaxInt64, math.MinInt64, math.MinInt64 + 1} {
		msgs.refused(t, msgWith(func(m *api.Msg) { m.Kind = n }), api.ErrKind)
	}
}

func TestP702Yes(t *testing.T) {
	for _, yes := range []bool{false, true} {
		m := msgWith(func(m *api.Msg) { m.Yes = yes })
		msgs.written(t, m, plainMsg(m))
	}
	for n := 2; n < 256; n++ {
		b := plainMsg(someMsg())
		b[yesAt] = byte(n)
		msgs.unread(t, b, api.ErrBad)
	}
}

func TestP702UnlikeCounts(t *testing.T) {
	for terms := range 4 {
		for kinds := range 4 {
			for entries := range 4 {
				m := msgWith(func(m *api.Msg) {
					m.Terms, m.Kinds, m.Entries = make([]int, terms), make([]int, kinds), make([][]byte, entries)
				})
				if terms == entries && kinds == entries {
					msgs.written(t, m, plainMsg(m))
				} else {
					msgs.refused(t, m, api.ErrArg)
				}
			}
		}
	}
	for _, f := range []func(m *api.Msg){
		func(m *api.Msg) { m.Terms = nil },
		func(m *api.Msg) { m.Kinds = nil },
		func(m *api.Msg) { m.Entries = nil },
		func(m *api.Msg) { m.Terms, m.Kinds = nil, nil },
		func(m *api.Msg) { m.Terms, m.Entries = nil, nil },
		func(m *api.Msg) { m.Kinds, m.Entries = nil, nil },
		func(m *api.Msg) { m.Terms, m.Kinds = make([]int, 259), make([]int, 259) },
	} {
		msgs.refused(t, msgWith(f), api.ErrArg)
	}
}

func TestP702Bounds(t *testing.T) {
	for _, m := range []api.Msg{
		entriesOf(someMsg(), 0, 0),
		entriesOf(someMsg(), 1, 700),
		entriesOf(someMsg(), 64, 0),
		entriesOf(someMsg(), 64, 255),
		entriesOf(someMsg(), 64, 256),
		entriesOf(someMsg(), 64, 700),
		msgWith(func(m *api.Msg) { m.Members = nil }),
		msgWith(func(m *api.Msg) { m.Members = []int{6, 5, 4, 3, 2, 1, 0} }),
		msgWith(func(m *api.Msg) { m.Data = nil }),
		msgWith(func(m *api.Msg) { m.Data = filled(255, 1) }),
		msgWith(func(m *api.Msg) { m.Data = filled(256, 1) }),
		msgWith(func(m *api.Msg) { m.Data = filled(32768, 1) }),
		msgWith(func(m *api.Msg) { m.Data = filled(60000, 1) }),
		entriesOf(msgWith(func(m *api.Msg) { m.Members, m.Data = make([]int, 7), filled(60000, 1) }), 64, 700),
	} {
		msgs.written(t, m, plainMsg(m))
	}
}

func TestP702Beyond(t *testing.T) {
	for _, x := range []struct {
		m    api.Msg
		want api.Errno
	}{
		{entriesOf(someMsg(), 65, 0), api.ErrMany},
		{entriesOf(someMsg(), 65, 700), api.ErrMany},
		{entriesOf(someMsg(), 255, 1), api.ErrMany},
		{msgWith(func(m *api.Msg) { m.Members = make([]int, 8) }), api.ErrMany},
		{msgWith(func(m *api.Msg) { m.Members = make([]int, 255) }), api.ErrMany},
		{entriesOf(someMsg(), 1, 701), api.ErrLong},
		{entriesOf(someMsg(), 64, 701), api.ErrLong},
		{entriesOf(someMsg(), 1, 65535), api.ErrLong},
		{msgWith(func(m *api.Msg) { m.Entries[0] = filled(701, 1) }), api.ErrLong},
		{msgWith(func(m *api.Msg) { m.Entries[1] = filled(701, 1) }), api.ErrLong},
		{msgWith(func(m *api.Msg) { m.Entries[2] = filled(701, 1) }), api.ErrLong},
		{msgWith(func(m *api.Msg) { m.Data = filled(60001, 1) }), api.ErrLong},
		{msgWith(func(m *api.Msg) { m.Data = filled(65535, 1) }), api.ErrLong},
	} {
		msgs.refused(t, x.m, x.want)
		msgs.unread(t, plainMsg(x.m), x.want)
	}
	// So many, or so long, that the count would be one that may be, if its upper bytes were dropped.
	for _, x := range []struct {
		m    api.Msg
		want api.Errno
	}{
		{entriesOf(someMsg(), 256, 0), api.ErrMany},
		{entriesOf(someMsg(), 257, 0), api.ErrMany},
		{msgWith(func(m *api.Msg) { m.Members = make([]int, 256) }), api.ErrMany},
		{msgWith(func(m *api.Msg) { m.Members = make([]int, 257) }), api.ErrMany},
		{msgWith(func(m *api.Msg) { m.Entries[1] = make([]byte, 65536) }), api.ErrLong},
		{msgWith(func(m *api.Msg) { m.Data = make([]byte, 65537) }), api.ErrLong},
	} {
		msgs.refused(t, x.m, x.want)
	}
}

// Of several faults the promise's first one is told, of a message and of its bytes; those of the bytes themselves ahead of them all.
func TestP702SeveralFaults(t *testing.T) {
	kind := func(m *api.Msg) { m.Kind = 16 }
	unlike := func(m *api.Msg) { m.Terms = append(m.Terms, 1) }
	entries := func(m *api.Msg) { *m = entriesOf(*m, 65, 1) }
	members := func(m *api.Msg) { m.Members = make([]int, 8) }
	entry := func(m *api.Msg) { m.Entries[0] = make([]byte, 701) }
	data := func(m *api.Msg) { m.Data = make([]byte, 60001) }
	for _, x := range []struct {
		faults []func(m *api.Msg)
		want   api.Errno
	}{
		{[]func(m *api.Msg){kind, unlike}, api.ErrKind},
		{[]func(m *api.Msg){kind, entries}, api.ErrKind},
		{[]func(m *api.Msg){kind, members}, api.ErrKind},
		{[]func(m *api.Msg){kind, entry}, api.ErrKind},
		{[]func(m *api.Msg){kind, data}, api.ErrKind},
		{[]func(m *api.Msg){entries, kind, unlike, members, entry, data}, api.ErrKind},
		{[]func(m *api.Msg){entries, unlike}, api.ErrArg},
		{[]func(m *api.Msg){unlike, members}, api.ErrArg},
		{[]func(m *api.Msg){unlike, entry}, api.ErrArg},
		{[]func(m *api.Msg){unlike, data}, api.ErrArg},
		{[]func(m *api.Msg){entries, unlike, members, entry, data}, api.ErrArg},
		{[]func(m *api.Msg){entries, members}, api.ErrMany},
		{[]func(m *api.Msg){entries, entry}, api.ErrMany},
		{[]func(m *api.Msg){entries, data}, api.ErrMany},
		{[]func(m *api.Msg){members, entry}, api.ErrMany},
		{[]func(m *api.Msg){members, data}, api.ErrMany},
		{[]func(m *api.Msg){entry, data}, api.ErrLong},
	} {
		m := someMsg()
		for _, f := range x.faults {
			f(&m)
		}
		msgs.refused(t, m, x.want)
		// Bytes have as many terms and kinds as entries: unlike counts can't be told by them.
		want := x.want
		m.Terms = m.Terms[:len(m.Entries)]
		if want == api.ErrArg {
			_, want = msgs.write(m)
		}
		checkByteFaults(t, plainMsg(m), want)
	}
}

// checkByteFaults tells whether b, which is refused by that error or by none, is refused otherwise when it is cut, spoilt, or has more.
func checkByteFaults(t *testing.T, b []byte, want api.Errno) {
	t.Helper()
	if _, err := msgs.read(b); err != want {
		t.Errorf("%.100x: %v; want %v", b, err, want)
	}
	longer := append(append([]byte{}, b...), 0)
	msgs.unread(t, longer, api.ErrMore)
	msgs.unread(t, b[:len(b)-1], api.ErrCut)
	for _, yes := range []byte{2, 255} {
		b[yesAt], longer[yesAt] = yes, yes
		msgs.unread(t, b, api.ErrBad)
		msgs.unread(t, longer, api.ErrBad)
		msgs.unread(t, b[:len(b)-1], api.ErrCut)
		msgs.unread(t, b[:yesAt+1], api.ErrCut)
	}
}

func TestP702CutAndMore(t *testing.T) {
	for _, m := range []api.Msg{someMsg(), {Kind: 1}, {Kind: 15, Members: make([]int, 7)}, entriesOf(api.Msg{Kind: 2}, 64, 3)} {
		b := msgs.must(t, m)
		for k := range b {
			msgs.unread(t, b[:k], api.ErrCut)
		}
		for k := range 300 {
			msgs.unread(t, append(b, filled(k+1, byte(k))...), api.ErrMore)
		}
		msgs.unread(t, append(b, b...), api.ErrMore)
	}
	msgs.unread(t, nil, api.ErrCut)
	msgs.unread(t, []byte{}, api.ErrCut)
}

// A count that is not that of what stands behind it.
func TestP702Counts(t *testing.T) {
	bare := plainMsg(api.Msg{Kind: 1})
	for at := entriesAt; at < len(bare); at++ {
		for n := 1; n < 256; n++ {
			b := append([]byte{}, bare...)
			b[at] = byte(n)
			msgs.unread(t, b, api.ErrCut)
		}
	}
	// An entry's count that reaches beyond the end, up to it, and short of it.
	one := plainMsg(entriesOf(api.Msg{Kind: 1}, 1, 4))
	countAt := entriesAt + 1 + 16
	for n, want := range map[int]api.Errno{0xffff: api.ErrCut, 8: api.ErrCut, 7: api.ErrCut, 5: api.ErrCut} {
		b := append([]byte{}, one...)
		b[countAt], b[countAt+1] = byte(n>>8), byte(n)
		msgs.unread(t, b, want)
	}
	noughts := plainMsg(api.Msg{Kind: 1, Terms: []int{0}, Kinds: []int{0}, Entries: [][]byte{make([]byte, 4)}})
	for n, want := range map[int]api.Errno{0: api.ErrMore, 3: api.ErrMore, 4: api.OK, 5: api.ErrCut} {
		b := append([]byte{}, noughts...)
		b[countAt+1] = byte(n)
		if err := msgs.settled(t, b); err != want {
			t.Errorf("a count of %d: %v; want %v", n, err, want)
		}
	}
}

// No byte of a message can be turned without another message's bytes, or none, coming of it.
func TestP704EachByteOfAMsg(t *testing.T) {
	b := msgs.must(t, someMsg())
	for k := range b {
		for by := 1; by < 256; by++ {
			turned := append([]byte{}, b...)
			turned[k] ^= byte(by)
			msgs.settled(t, turned)
			if m, _ := msgs.read(turned); dump(m) == dump(someMsg()) {
				t.Errorf("byte %d turned by %x: the same message", k, by)
			}
		}
	}
}
