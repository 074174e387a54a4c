package pack_test

import (
	"hash/crc32"
	"math/rand"
	"testing"

	"chancel/api"
	"chancel/pack"
)

func TestP703Crc(t *testing.T) {
	for s, want := range map[string]uint32{
		"":                 0,
		"123456789":        0xE3069283,
		"a":                0xC1D04330,
		"\x00\x00\x00\x00": 0x48674BC7,
		"\xff\xff\xff\xff": 0xFFFFFFFF,
	} {
		if got := pack.Crc([]byte(s)); got != want {
			t.Errorf("%q: %08X; want %08X", s, got, want)
		}
	}
}

func TestP703CrcByTheLibrary(t *testing.T) {
	table := crc32.MakeTable(crc32.Castagnoli)
	check := func(b []byte) {
		t.Helper()
		if got, want := pack.Crc(b), crc32.Checksum(b, table); got != want {
			t.Errorf("%.40x, of %d bytes: %08X; want %08X", b, len(b), got, want)
		}
	}
	for one := range 256 {
		check([]byte{byte(one)})
		for other := range 256 {
			check([]byte{byte(one), byte(other)})
		}
	}
	r := rand.New(rand.NewSource(1))
	for range 2000 {
		check(randomBytes(r, 300))
	}
	check(filled(65000, 7))
	check(make([]byte, 200001))
}

// plainFrame is a frame by the library.
func plainFrame(b []byte) []byte {
	sum := crc32.Checksum(b, crc32.MakeTable(crc32.Castagnoli))
	return append([]byte{byte(sum >> 24), byte(sum >> 16), byte(sum >> 8), byte(sum)}, b...)
}

func TestP703Frame(t *testing.T) {
	frames.written(t, []byte("123456789"), []byte("\xe3\x06\x92\x83"+"123456789"))
	frames.written(t, nil, []byte{0, 0, 0, 0})
	for _, n := range []int{1, 2, 3, 4, 5, 255, 256, 257, 64999, 65000} {
		frames.written(t, filled(n, 3), plainFrame(filled(n, 3)))
		frames.written(t, make([]byte, n), plainFrame(make([]byte, n)))
	}
}

func TestP703Long(t *testing.T) {
	for _, n := range []int{65001, 65002, 65536, 65537, 1 << 17, 1 << 20} {
		frames.refused(t, make([]byte, n), api.ErrLong)
	}
}

// No bound is named for what is read: a longer frame whose sum is right is one.
func TestP703UnframeLong(t *testing.T) {
	for _, n := range []int{65001, 65536, 1 << 17} {
		got, err := pack.Unframe(plainFrame(filled(n, 5)))
		if err != api.OK || string(got) != string(filled(n, 5)) {
			t.Errorf("of %d bytes: %v, %d bytes", n, err, len(got))
		}
	}
}

func TestP703Short(t *testing.T) {
	frames.unread(t, nil, api.ErrCut)
	for n := range 4 {
		frames.unread(t, make([]byte, n), api.ErrCut)
		frames.unread(t, filled(n, 0xff), api.ErrCut)
	}
	frames.unread(t, []byte{0, 0, 0, 1}, api.ErrBad)
	frames.unread(t, []byte{1, 0, 0, 0}, api.ErrBad)
	frames.unread(t, []byte{0xff, 0xff, 0xff, 0xff}, api.ErrBad)
	// The sum's bytes the other way about.
	frames.unread(t, []byte("\x83\x92\x06\xe3"+"123456789"), api.ErrBad)
}

// checkTurned tells whether no byte of a frame can be turned.
func checkTurned(t *testing.T, frame []byte, each []byte) {
	t.Helper()
	for k := range frame {
		for _, by := range each {
			frame[k] ^= by
			frames.unread(t, frame, api.ErrBad)
			frame[k] ^= by
		}
	}
}

func TestP704EachByteOfAFrame(t *testing.T) {
	all := make([]byte, 255)
	for i := range all {
		all[i] = byte(i + 1)
	}
	checkTurned(t, frames.must(t, nil), all)
	checkTurned(t, frames.must(t, []byte{0}), all)
	checkTurned(t, frames.must(t, []byte("123456789")), all)
	checkTurned(t, frames.must(t, cmds.must(t, someCmd())), all)
	checkTurned(t, frames.must(t, msgs.must(t, someMsg())), all)
	checkTurned(t, frames.must(t, filled(2000, 9)), []byte{1, 2, 16, 128, 255})
}

func TestP704FrontsOfAFrame(t *testing.T) {
	frame := frames.must(t, []byte("123456789"))
	for k := range frame {
		want := api.ErrBad
		if k < 4 {
			want = api.ErrCut
		}
		frames.unread(t, frame[:k], want)
	}
	frames.unread(t, append(frame, 0), api.ErrBad)
}
