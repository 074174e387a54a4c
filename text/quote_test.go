package text_test

import (
	"strconv"
	"strings"
	"testing"

	"chancel/api"
	"chancel/text"
)

func TestP102Quote(t *testing.T) {
	for s, want := range map[string]string{
		"":                    `""`,
		"abc":                 `"abc"`,
		`\`:                   `"\\"`,
		`"`:                   `"\""`,
		`\"\n`:                `"\\\"\\n"`,
		"\n":                  `"\n"`,
		"\t":                  `"\t"`,
		"\r":                  `"\u{d}"`,
		"\x00":                `"\u{0}"`,
		"\x07":                `"\u{7}"`,
		"\x0f\x10\x1f":        `"\u{f}\u{10}\u{1f}"`,
		" ~":                  `" ~"`,
		"\x7f":                `"\u{7f}"`,
		"\u0080\u009f":        "\"\u0080\u009f\"",
		"é€😀\ufffd":           "\"é€😀\ufffd\"",
		"\u2028\u200b":        "\"\u2028\u200b\"",
		"*'/":                 `"*'/"`,
		"a\x00b\nc\"d\\e\x7f": `"a\u{0}b\nc\"d\\e\u{7f}"`,
	} {
		if got := text.Quote(s); got != want {
			t.Errorf("Quote(%q): %s, not %s", s, got, want)
		}
	}
}

// quotedRune writes a rune by the document's rule.
func quotedRune(r rune) string {
	switch r {
	case '\\':
		return `\\`
	case '"':
		return `\"`
	case 10:
		return `\n`
	case 9:
		return `\t`
	}
	const digits = "0123456789abcdef"
	switch {
	case r < 16:
		return `\u{` + digits[r:r+1] + "}"
	case r < 32 || r == 127:
		return `\u{` + digits[r>>4:r>>4+1] + digits[r&15:r&15+1] + "}"
	}
	return bytesOf(r)
}

func TestP102AndP105EveryRune(t *testing.T) {
	for r := rune(0); r <= maxRune; r++ {
		if !isRune(r) {
			continue
		}
		s := bytesOf(r)
		q := text.Quote(s)
		if q != `"`+quotedRune(r)+`"` {
			t.Fatalf("Quote(%q): %s", s, q)
		}
		if x, n, err := text.Read(q); x != s || n != len(q) || err != api.OK {
			t.Fatalf("Read(%s): %q, %d, %v", q, x, n, err)
		}
	}
}

func TestP105ReadOfQuote(t *testing.T) {
	rows("a\"\\n\n\t\x00\x7f{}*u", 4, func(s string) {
		q := text.Quote(s)
		for _, tail := range []string{"", `"`, `\`, " more", "\x00", "\xff"} {
			if x, n, err := text.Read(q + tail); x != s || n != len(q) || err != api.OK {
				t.Fatalf("Read(%q): %q, %d, %v", q+tail, x, n, err)
			}
		}
	})
}

func TestP103Read(t *testing.T) {
	for s, want := range map[string]struct {
		meant string
		size  int
	}{
		`""`:                         {"", 2},
		`"" "x"`:                     {"", 2},
		`"abc"def`:                   {"abc", 5},
		`"\\\"\n\t"`:                 {"\\\"\n\t", 10},
		`"\\"x"`:                     {"\\", 4},
		`"\u{0}"`:                    {"\x00", 7},
		`"\u{41}\u{041}\u{000041}"`:  {"AAA", 25},
		`"\u{aBcD}\u{fF}"`:           {"\uabcd\u00ff", 16},
		`"\u{22}\u{5c}"`:             {`"\`, 14},
		`"\u{d7ff}\u{e000}"`:         {"\ud7ff\ue000", 18},
		`"\u{fffd}` + "\ufffd" + `"`: {"\ufffd\ufffd", 13},
		`"\u{10FFFF}"`:               {"\U0010ffff", 12},
		"\"\x7f é€😀\"":               {"\x7f é€😀", 13},
		"\"a\"\xff\x00":              {"a", 3},
		`"u{41}n"`:                   {"u{41}n", 8},
		`"\n41}"`:                    {"\n41}", 7},
	} {
		if x, n, err := text.Read(s); x != want.meant || n != want.size || err != api.OK {
			t.Errorf("Read(%q): %q, %d, %v, not %q, %d", s, x, n, err, want.meant, want.size)
		}
	}
}

func TestP103WrongInputs(t *testing.T) {
	for s, want := range map[string]api.Errno{
		"":                         api.ErrToken,
		"a":                        api.ErrToken,
		` ""`:                      api.ErrToken,
		`\"a"`:                     api.ErrToken,
		"\xff\"\"":                 api.ErrToken,
		`"`:                        api.ErrToken,
		`"abc`:                     api.ErrToken,
		`"é`:                       api.ErrToken,
		`"\`:                       api.ErrToken,
		`"\"`:                      api.ErrToken,
		`"\n`:                      api.ErrToken,
		"\"\n\"":                   api.ErrToken,
		"\"\t\"":                   api.ErrToken,
		"\"\x00\"":                 api.ErrToken,
		"\"\x1f\"":                 api.ErrToken,
		"\"\\\n\"":                 api.ErrToken,
		`"\a"`:                     api.ErrToken,
		`"\r"`:                     api.ErrToken,
		`"\N"`:                     api.ErrToken,
		`"\'"`:                     api.ErrToken,
		`"\0"`:                     api.ErrToken,
		`"\é"`:                     api.ErrToken,
		`"\u"`:                     api.ErrToken,
		`"\u`:                      api.ErrToken,
		`"\u0041"`:                 api.ErrToken,
		`"\u{`:                     api.ErrToken,
		`"\u{"`:                    api.ErrToken,
		`"\u{}"`:                   api.ErrToken,
		`"\u{41`:                   api.ErrToken,
		`"\u{41"`:                  api.ErrToken,
		`"\u{0000041}"`:            api.ErrToken,
		`"\u{1000000}"`:            api.ErrToken,
		`"\u{110000`:               api.ErrToken,
		`"\u{d800"`:                api.ErrToken,
		`"\u{g}"`:                  api.ErrToken,
		`"\u{G}"`:                  api.ErrToken,
		"\"\\u{`}\"":               api.ErrToken,
		`"\u{@}"`:                  api.ErrToken,
		`"\u{/}"`:                  api.ErrToken,
		`"\u{:}"`:                  api.ErrToken,
		`"\u{-1}"`:                 api.ErrToken,
		`"\u{ 41}"`:                api.ErrToken,
		`"\u{4 1}"`:                api.ErrToken,
		`"\U{41}"`:                 api.ErrToken,
		`"\u{é}"`:                  api.ErrToken,
		`"\u{41é"`:                 api.ErrToken,
		"\"\\\xff\"":               api.ErrToken,
		"\"\\u{\xff}\"":            api.ErrToken,
		"\"\\u{4\xff":              api.ErrToken,
		`"\u{d800}"`:               api.ErrRune,
		`"\u{DFFF}"`:               api.ErrRune,
		`"\u{00d800}`:              api.ErrRune,
		`"\u{110000}"`:             api.ErrRune,
		`"\u{ffffff}"`:             api.ErrRune,
		`"\u{d83d}\u{de00}"`:       api.ErrRune,
		"\"\xff\"":                 api.ErrRune,
		"\"a\x80\"":                api.ErrRune,
		"\"\xc3\"":                 api.ErrRune,
		"\"\xc3":                   api.ErrRune,
		"\"\xe2\x82\"":             api.ErrRune,
		"\"\xef\xbf\"":             api.ErrRune,
		"\"\xc0\x80\"":             api.ErrRune,
		"\"\xed\xa0\x80\"":         api.ErrRune,
		"\"\xf4\x90\x80\x80\"":     api.ErrRune,
		"\"\xff\\a":                api.ErrRune,
		"\"\xff\x01":               api.ErrRune,
		"\"\xc3\x01":               api.ErrRune,
		`"\u{d800}\a`:              api.ErrRune,
		"\"\x01\xff\"":             api.ErrToken,
		"\"\\a\xff\"":              api.ErrToken,
		`"\a\u{d800}"`:             api.ErrToken,
		`"good\\\u{41}\u{12345`:    api.ErrToken,
		"\"good\ufffd\u00e9\xef\"": api.ErrRune,
	} {
		if x, n, err := text.Read(s); x != "" || n != 0 || err != want {
			t.Errorf("Read(%q): %q, %d, %v, not %v", s, x, n, err, want)
		}
	}
}

func TestP103NumbersThatAreNoRune(t *testing.T) {
	for r := rune(0); r <= 0x120000; r += 0xff {
		for _, digits := range []string{strconv.FormatInt(int64(r), 16), strings.ToUpper(strconv.FormatInt(int64(r)|1<<24, 16)[1:])} {
			s := `"\u{` + digits + `}"`
			x, n, err := text.Read(s)
			if isRune(r) && (x != bytesOf(r) || n != len(s) || err != api.OK) {
				t.Fatalf("Read(%s): %q, %d, %v", s, x, n, err)
			}
			if !isRune(r) && (x != "" || n != 0 || err != api.ErrRune) {
				t.Fatalf("Read(%s): %q, %d, %v", s, x, n, err)
			}
		}
	}
}

func TestP103LongTextsAreReadInOnePass(t *testing.T) {
	s := strings.Repeat("\\u{41}é\x7f\\\"", 200000)
	want := strings.Repeat("Aé\x7f\"", 200000)
	if x, n, err := text.Read(`"` + s + `"`); x != want || n != len(s)+2 || err != api.OK {
		t.Errorf("Read: %d bytes, %d, %v", len(x), n, err)
	}
	if x, n, err := text.Read(`"` + s); x != "" || n != 0 || err != api.ErrToken {
		t.Errorf("Read of one that is cut off: %d bytes, %d, %v", len(x), n, err)
	}
}
