package lex_test

import (
	"strings"
	"testing"

	"chancel/api"
	"chancel/lex"
)

// broken are bytes that are no text.
var broken = []string{"\xff", "\x80", "\xc3", "\xe2\x82", "\xc0\xaf", "\xed\xa0\x80", "\xf4\x90\x80\x80", "\xf0\x9f\x98", "\xef\xbf"}

func TestP401SourcesOf600Bytes(t *testing.T) {
	for _, end := range []string{" ", "\n", "a", "1", "+", "::", `"b"`, "//", "//é"} {
		fits := strings.Repeat(" ", 600-len(end)) + end
		if _, err := lex.Tokens(fits); err != api.OK {
			t.Errorf("Tokens(%q): %v", fits, err)
		}
		checkFault(t, " "+fits, api.ErrLong)
		checkFault(t, fits+" ", api.ErrLong)
		checkFault(t, fits+end+fits, api.ErrLong)
	}
	checkTokens(t, strings.Repeat("\n", 599)+"a", name("a", 599))
	// Bytes are counted, not runes.
	checkTokens(t, "//"+strings.Repeat("é", 299))
	checkFault(t, "//"+strings.Repeat("é", 299)+" ", api.ErrLong)
	checkFault(t, "// "+strings.Repeat("😀", 150), api.ErrLong)
}

func TestP401TooLongAheadOfAllElse(t *testing.T) {
	for _, fault := range append([]string{"@", "01", "9223372036854775808", `"`, `"\u{d800}"`, strings.Repeat("+", 201)}, broken...) {
		checkFault(t, fault+strings.Repeat(" ", 601-len(fault)), api.ErrLong)
		checkFault(t, strings.Repeat(" ", 601-len(fault))+fault, api.ErrLong)
	}
}

func TestP401BytesThatAreNoText(t *testing.T) {
	for _, bad := range broken {
		for _, front := range []string{"", "a", "1", "+ ", `"`, "//", "// é\n", "@", "01", strings.Repeat("a", 13), "9223372036854775808", `"\u{d800}"`, `"\x"`, strings.Repeat("+", 201)} {
			checkFault(t, front+bad, api.ErrRune)
			checkFault(t, front+bad+"\"", api.ErrRune)
			checkFault(t, front+strings.Repeat(" ", 600-len(front)-len(bad))+bad, api.ErrRune)
		}
	}
	checkTokens(t, "// \ufffd\n\"\ufffd\"", quoted("\ufffd", 7))
}

func TestP401SignsThatAreNone(t *testing.T) {
	const known = " \t\n\r\"" + "(){}[],;:.<>!+-*" + "0123456789ABCDEFGHIJKLMNOPQRSTUVWXYZabcdefghijklmnopqrstuvwxyz_"
	for r := range rune(0x3000) {
		if strings.ContainsRune(known, r) {
			continue
		}
		checkFault(t, string(r), api.ErrToken)
		checkFault(t, "a"+string(r)+" ", api.ErrToken)
		checkFault(t, "1 "+string(r), api.ErrToken)
	}
	for _, s := range []string{"\ufeff", "\ufffd", "ａ", "１", "＋", "😀", "\U0010ffff", "a / b", "/", "/ /", "/*a*/", "a/", "/\n/", "#a", "a?", "a'b'", "`a`", `\`, `\"a"`, "a%b", "a^b", "~a", "$a", "a@", "\v", "\f", "\x00", "\x7f", "\u00a0", "\u0085", "\u2028"} {
		checkFault(t, s, api.ErrToken)
	}
}

func TestP401QuotedWithoutAnEnd(t *testing.T) {
	for _, s := range []string{`"`, `"a`, `"a\"`, `"\\\"`, `"""`, `"a" "`, `"a"b"`, `"\`, `"\u{41`, `"\u{`, `"é`, "\"a\n\"", "\"a\t\"", "\"\r\"", "\"\x00\"", "\"\x1f\"", `"// a`, `"` + strings.Repeat("a", 31), `"` + strings.Repeat("a", 599)} {
		checkFault(t, s, api.ErrToken)
	}
}

func TestP401EscapesThatAreNone(t *testing.T) {
	for _, e := range []string{`\x`, `\a`, `\r`, `\0`, `\'`, `\/`, `\ `, `\N`, `\T`, `\U{41}`, `\u`, `\u41`, `\u0041`, `\u{}`, `\u{g}`, `\u{ 41}`, `\u{41 }`, `\u{+41}`, `\u{0000041}`, `\u{1000000}`, `\u(41)`, `\é`} {
		checkFault(t, `"`+e+`"`, api.ErrToken)
		checkFault(t, `a "b`+e+`c"`, api.ErrToken)
	}
	for _, e := range []string{`\u{d800}`, `\u{D800}`, `\u{dfff}`, `\u{00dabc}`, `\u{110000}`, `\u{ffffff}`} {
		checkFault(t, `"`+e+`"`, api.ErrRune)
		checkFault(t, `a "b`+e+`c"`, api.ErrRune)
	}
	// What Read refuses is told ahead of a text that is too long, wherever it stands in it.
	many := strings.Repeat("a", 31)
	checkFault(t, `"`+many+`\x"`, api.ErrToken)
	checkFault(t, `"`+many+`\u{d800}"`, api.ErrRune)
	checkFault(t, `"`+many, api.ErrToken)
	checkFault(t, `"`+many+"\n\"", api.ErrToken)
}

func TestP401TwoHundredTokens(t *testing.T) {
	for _, all := range []string{
		strings.Repeat("+", 200),
		strings.Repeat("::", 200),
		strings.Repeat("a ", 200),
		strings.Repeat("1 ", 200),
		strings.Repeat(`""`, 200),
		strings.Repeat("a:", 100),
		strings.Repeat("1a ", 100),
		strings.Repeat("x//\n", 100) + strings.Repeat("-", 100),
		strings.Repeat(`a->"";`, 50),
	} {
		for _, gap := range []string{"", " ", "// a b\n", "//\n//\n", " \t\r\n"} {
			if l, err := lex.Tokens(gap + all + gap + "//+"); err != api.OK || len(l) != 200 {
				t.Errorf("Tokens(%q): %d, %v", gap+all+gap+"//+", len(l), err)
			}
			for _, more := range []string{"+", "b", "1", `"a"`, "::"} {
				checkFault(t, all+gap+more, api.ErrMany)
				checkFault(t, more+" "+gap+all, api.ErrMany)
			}
		}
	}
	checkTokens(t, strings.Repeat(" ", 201))
	checkFault(t, strings.Repeat("+", 600), api.ErrMany)
}

// firsts are faults that are told where they stand, and what is answered.
var firsts = []struct {
	s    string
	want api.Errno
}{
	{"@", api.ErrToken},
	{"é", api.ErrToken},
	{"=", api.ErrToken},
	{"01", api.ErrToken},
	{"9223372036854775808", api.ErrOver},
	{"abcdefghijklm", api.ErrLong},
	{`"abcdefghijklmnopqrstuvwxyz12345"`, api.ErrLong},
	{`"\u{d800}"`, api.ErrRune},
	{`"\x"`, api.ErrToken},
}

func TestP401TheFirstFromTheLeft(t *testing.T) {
	ends := append(firsts[:len(firsts):len(firsts)], struct {
		s    string
		want api.Errno
	}{`"`, api.ErrToken})
	for _, first := range firsts {
		for _, last := range ends {
			for _, between := range []string{" ", " a ", "\n", "//\n", ".", ` "a" `, ` b->1 // "` + "\n"} {
				checkFault(t, first.s+between+last.s, first.want)
				checkFault(t, "a "+first.s+between+last.s, first.want)
			}
		}
	}
}

func TestP401FaultsAndTooMany(t *testing.T) {
	for _, x := range firsts {
		// What stands there is no token, and so not one too many.
		checkFault(t, strings.Repeat("+", 199)+x.s, x.want)
		checkFault(t, strings.Repeat("+", 200)+x.s, x.want)
		checkFault(t, strings.Repeat("+", 200)+"//\n"+x.s, x.want)
		checkFault(t, strings.Repeat("+", 201)+x.s, api.ErrMany)
		checkFault(t, x.s+strings.Repeat("+", 201), x.want)
		checkFault(t, strings.Repeat("+", 200)+"//"+x.s+"\n-"+x.s, api.ErrMany)
	}
}
