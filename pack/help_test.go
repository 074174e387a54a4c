package pack_test

import (
	"encoding/binary"
	"fmt"
	"math"
	"math/rand"
	"strings"
	"testing"

	"chancel/api"
	"chancel/pack"
)

// dump tells all fields of whatever there is; no list and an empty one are the same.
func dump(x any) string {
	return strings.ReplaceAll(fmt.Sprintf("%#v", x), "(nil)", "{}")
}

// face is a call that writes, and the one that reads what it wrote.
type face[T any] struct {
	write func(T) ([]byte, api.Errno)
	read  func([]byte) (T, api.Errno)
}

var (
	cmds   = face[api.Cmd]{pack.Cmd, pack.ParseCmd}
	msgs   = face[api.Msg]{pack.Msg, pack.ParseMsg}
	frames = face[[]byte]{pack.Frame, pack.Unframe}
)

// must answers what is written of x, which may be written.
func (f face[T]) must(t *testing.T, x T) []byte {
	t.Helper()
	b, err := f.write(x)
	if err != api.OK {
		t.Fatalf("%.300s: %v", dump(x), err)
	}
	return b
}

// written tells whether x is written as these bytes (P701 to P703), and read of them again (P704).
func (f face[T]) written(t *testing.T, x T, want []byte) {
	t.Helper()
	b, err := f.write(x)
	if err != api.OK || string(b) != string(want) {
		t.Errorf("%.300s: %v, %.300x; want %.300x", dump(x), err, b, want)
	}
	got, err := f.read(want)
	if err != api.OK || dump(got) != dump(x) {
		t.Errorf("%.300x: %v, read as %.300s; want %.300s", want, err, dump(got), dump(x))
	}
}

// refused tells whether x is not written, by that error, with nothing beside it (P4).
func (f face[T]) refused(t *testing.T, x T, want api.Errno) {
	t.Helper()
	if b, err := f.write(x); err != want || len(b) > 0 {
		t.Errorf("%.300s: %v, %.300x; want %v", dump(x), err, b, want)
	}
}

// unread tells whether bytes are not read, by that error, with nothing beside it (P4).
func (f face[T]) unread(t *testing.T, b []byte, want api.Errno) {
	t.Helper()
	var none T
	if got, err := f.read(b); err != want || dump(got) != dump(none) {
		t.Errorf("%.300x: %v, %.300s; want %v", b, err, dump(got), want)
	}
}

// settled tells whether bytes either are not read, with nothing beside the error, or are what is written of what is read (P704). It answers the error.
func (f face[T]) settled(t *testing.T, b []byte) api.Errno {
	t.Helper()
	got, err := f.read(b)
	if err != api.OK {
		f.unread(t, b, err)
		return err
	}
	if again, err := f.write(got); err != api.OK || string(again) != string(b) {
		t.Errorf("%.300x: read as %.300s, and that written as %.300x, %v", b, dump(got), again, err)
	}
	return api.OK
}

// plainCmd is a command's bytes by the library, whether or not there may be such a one.
func plainCmd(c api.Cmd) []byte {
	b := append([]byte{}, byte(c.Client))
	b = binary.BigEndian.AppendUint64(b, uint64(c.Seq))
	b = append(b, byte(c.Kind))
	return plainBytes(plainBytes(b, []byte(c.Name)), []byte(c.Text))
}

// plainMsg is a message's bytes by the library, whether or not there may be such a one; it has as many Terms and Kinds as Entries, at least.
func plainMsg(m api.Msg) []byte {
	b := plainInts(nil, m.From, m.To)
	b = append(b, byte(m.Kind))
	b = plainInts(b, m.Term, m.Index, m.Last, m.Commit, m.Seq)
	yes := byte(0)
	if m.Yes {
		yes = 1
	}
	b = append(b, yes, byte(len(m.Entries)))
	for i, e := range m.Entries {
		b = plainBytes(plainInts(b, m.Terms[i], m.Kinds[i]), e)
	}
	b = append(b, byte(len(m.Members)))
	return plainBytes(plainInts(b, m.Members...), m.Data)
}

func plainInts(b []byte, l ...int) []byte {
	for _, n := range l {
		b = binary.BigEndian.AppendUint64(b, uint64(n))
	}
	return b
}

func plainBytes(b, more []byte) []byte {
	return append(binary.BigEndian.AppendUint16(b, uint16(len(more))), more...)
}

// someCmd and someMsg have no two fields alike, so that none can stand in another's place.
func someCmd() api.Cmd {
	return api.Cmd{Client: 3, Seq: 0x0102030405060708, Kind: api.CPut, Name: "rule_1", Text: "permit \x00\xff"}
}

func someMsg() api.Msg {
	return api.Msg{
		From: 0x1112131415161718, To: -2, Kind: 9, Term: 3, Index: 1 << 39, Last: 5, Commit: -6, Seq: 7, Yes: true,
		Terms: []int{11, -12, 13}, Kinds: []int{21, 22, -23}, Entries: [][]byte{[]byte("one\x00"), {}, {0xff}},
		Members: []int{31, -32}, Data: []byte("\x00data"),
	}
}

// entriesOf gives m so many entries, each of that length.
func entriesOf(m api.Msg, count, length int) api.Msg {
	m.Terms, m.Kinds, m.Entries = make([]int, count), make([]int, count), make([][]byte, count)
	for i := range count {
		m.Terms[i], m.Kinds[i], m.Entries[i] = i+1, -i, filled(length, byte(i))
	}
	return m
}

func filled(length int, with byte) []byte {
	b := make([]byte, length)
	for i := range b {
		b[i] = with + byte(i)
	}
	return b
}

// edges are ints about nought, about the ends of each count of bytes, and at both ends of 64 bits.
func edges() []int {
	l := []int{0, math.MaxInt64, math.MinInt64}
	for bits := 0; bits < 63; bits++ {
		n := 1 << bits
		l = append(l, n-1, n, n+1, -n, -n-1, 1-n)
	}
	return l
}

func randomInt(r *rand.Rand) int {
	return int(r.Uint64()) >> r.Intn(64)
}

func randomBytes(r *rand.Rand, atMost int) []byte {
	b := make([]byte, r.Intn(atMost+1))
	r.Read(b)
	return b
}

func randomCmd(r *rand.Rand) api.Cmd {
	return api.Cmd{
		Client: 1 + r.Intn(8), Seq: 1 + r.Intn(math.MaxInt64)>>r.Intn(63), Kind: 1 + r.Intn(5),
		Name: string(randomBytes(r, 12)), Text: string(randomBytes(r, 600>>r.Intn(10))),
	}
}

func randomMsg(r *rand.Rand) api.Msg {
	m := api.Msg{
		From: randomInt(r), To: randomInt(r), Kind: 1 + r.Intn(15), Term: randomInt(r), Index: randomInt(r),
		Last: randomInt(r), Commit: randomInt(r), Seq: randomInt(r), Yes: r.Intn(2) == 1,
		Data: randomBytes(r, 60000>>r.Intn(17)),
	}
	for range r.Intn(65) >> r.Intn(7) {
		m.Terms = append(m.Terms, randomInt(r))
		m.Kinds = append(m.Kinds, randomInt(r))
		m.Entries = append(m.Entries, randomBytes(r, 700>>r.Intn(10)))
	}
	for range r.Intn(8) {
		m.Members = append(m.Members, randomInt(r))
	}
	return m
}
