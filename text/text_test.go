package text_test

import (
	"slices"
	"strings"
	"testing"

	"chancel/api"
	"chancel/text"
)

const maxRune = 0x10ffff

// isRune is the document's word, not the library's.
func isRune(r rune) bool {
	return 0 <= r && r <= maxRune && !(0xd800 <= r && r <= 0xdfff)
}

// bytesOf writes a rune by the document's rule.
func bytesOf(r rune) string {
	low := func(from int) byte { return byte(0x80 | r>>from&0x3f) }
	switch {
	case r < 0x80:
		return string([]byte{byte(r)})
	case r < 0x800:
		return string([]byte{byte(0xc0 | r>>6), low(0)})
	case r < 0x10000:
		return string([]byte{byte(0xe0 | r>>12), low(6), low(0)})
	}
	return string([]byte{byte(0xf0 | r>>18), low(12), low(6), low(0)})
}

// allRunes tells every rune by its bytes.
func allRunes() map[string]rune {
	m := make(map[string]rune, maxRune)
	for r := rune(0); r <= maxRune; r++ {
		if isRune(r) {
			m[bytesOf(r)] = r
		}
	}
	return m
}

// plainCheck takes runes from the left, by looking their bytes up: no rune's bytes are a front of another one's.
func plainCheck(known map[string]rune, s string) api.Errno {
	for s != "" {
		n := 1
		for ; n <= 4 && n <= len(s); n++ {
			if _, ok := known[s[:n]]; ok {
				break
			}
		}
		if n > 4 || n > len(s) {
			return api.ErrRune
		}
		s = s[n:]
	}
	return api.OK
}

// rows calls f with every row of n of the bytes.
func rows(bytes string, n int, f func(s string)) {
	b := make([]byte, n)
	var put func(i int)
	put = func(i int) {
		if i == n {
			f(string(b))
			return
		}
		for j := range len(bytes) {
			b[i] = bytes[j]
			put(i + 1)
		}
	}
	put(0)
}

func TestP101EveryRune(t *testing.T) {
	for r := rune(-3); r <= maxRune+3; r++ {
		s, err := text.Of([]rune{r})
		if !isRune(r) {
			if s != "" || err != api.ErrRune {
				t.Fatalf("Of(%x): %q, %v", r, s, err)
			}
			continue
		}
		if s != bytesOf(r) || err != api.OK {
			t.Fatalf("Of(%x): %q, %v", r, s, err)
		}
		if err := text.Check(s); err != api.OK {
			t.Fatalf("Check(%q): %v", s, err)
		}
		if l := text.Runes(s); !slices.Equal(l, []rune{r}) {
			t.Fatalf("Runes(%q): %x", s, l)
		}
	}
}

func TestP101CheckRowsOfBytes(t *testing.T) {
	known := allRunes()
	check := func(s string) {
		if got, want := text.Check(s), plainCheck(known, s); got != want {
			t.Fatalf("Check(%q): %v, not %v", s, got, want)
		}
	}
	var every []byte
	for i := range 256 {
		every = append(every, byte(i))
	}
	edges := "\x00\x7f\x80\x8f\x90\x9f\xa0\xbd\xbf\xc0\xc1\xc2\xdf\xe0\xed\xef\xf0\xf4\xf5\xff"
	for n := range 3 {
		rows(string(every), n, check)
	}
	for n := 3; n <= 4; n++ {
		rows(edges, n, check)
	}
	rows("a\x80\xbd\xbf\xc3\xef", 6, check)
}

func TestP101Check(t *testing.T) {
	for s, want := range map[string]api.Errno{
		"":                         api.OK,
		"plain":                    api.OK,
		"\x00\x1f\x7f":             api.OK,
		"é€😀":                      api.OK,
		"\ufffd":                   api.OK,
		"a\ufffd\ufffdz":           api.OK,
		"\xed\x9f\xbf\xee\x80\x80": api.OK,
		"\xf4\x8f\xbf\xbf":         api.OK,
		"\x80":                     api.ErrRune,
		"a\xff":                    api.ErrRune,
		"\xc3":                     api.ErrRune,
		"\xc3a":                    api.ErrRune,
		"\xe2\x82":                 api.ErrRune,
		"\xf0\x9f\x98":             api.ErrRune,
		"\xc1\xbf":                 api.ErrRune,
		"\xe0\x9f\xbf":             api.ErrRune,
		"\xf0\x8f\xbf\xbf":         api.ErrRune,
		"\xed\xa0\x80":             api.ErrRune,
		"\xed\xbf\xbf":             api.ErrRune,
		"\xf4\x90\x80\x80":         api.ErrRune,
		"\xf8\x88\x80\x80\x80":     api.ErrRune,
		"\xef\xbf":                 api.ErrRune,
		"\ufffd\xef\xbf":           api.ErrRune,
		"\xef\ufffd":               api.ErrRune,
	} {
		if got := text.Check(s); got != want {
			t.Errorf("Check(%q): %v, not %v", s, got, want)
		}
	}
}

func TestP101Of(t *testing.T) {
	for _, l := range [][]rune{nil, {}} {
		if s, err := text.Of(l); s != "" || err != api.OK {
			t.Errorf("Of of none: %q, %v", s, err)
		}
	}
	for _, l := range [][]rune{{-1}, {-1 << 31}, {1<<31 - 1}, {0x110000}, {'a', 0xd800}, {0xdfff, 'a'}, {0xd83d, 0xde00}} {
		kept := slices.Clone(l)
		if s, err := text.Of(l); s != "" || err != api.ErrRune {
			t.Errorf("Of(%x): %q, %v", kept, s, err)
		}
		if !slices.Equal(l, kept) {
			t.Errorf("Of changed %x to %x", kept, l)
		}
	}
}

func TestP101RunesAnswersNewMemory(t *testing.T) {
	first := text.Runes("aé€")
	for i := range first[:cap(first)] {
		first[:cap(first)][i] = 'x'
	}
	if l := text.Runes("aé€"); !slices.Equal(l, []rune{'a', 0xe9, 0x20ac}) {
		t.Errorf("Runes: %x", l)
	}
	if l := text.Runes(""); len(l) != 0 {
		t.Errorf("Runes of none: %x", l)
	}
}

func TestP105OfAndRunes(t *testing.T) {
	l := []rune{0, 'a', 0x7f, 0x80, 0x7ff, 0x800, 0xd7ff, 0xe000, 0xfffd, 0xffff, 0x10000, 0x10ffff, 'a'}
	for n := range len(l) + 1 {
		s, err := text.Of(l[:n])
		if err != api.OK || !slices.Equal(text.Runes(s), l[:n]) {
			t.Errorf("Runes of Of(%x): %x, %v", l[:n], text.Runes(s), err)
		}
		if again, err := text.Of(text.Runes(s)); again != s || err != api.OK {
			t.Errorf("Of of Runes(%q): %q, %v", s, again, err)
		}
	}
}

func TestP1NoCallPanicsOnWhatIsNoText(t *testing.T) {
	rows("\x00\"*\\u{\x80\xc3\xff", 4, func(s string) {
		text.Runes(s)
		text.Quote(s)
		text.Read(s)
		text.Read(`"` + s)
		text.Like(s, "*"+s)
		text.Like(strings.Repeat(s, 2), s)
	})
}
