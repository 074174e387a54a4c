package lex_test

import (
	"math/rand"
	"slices"
	"strings"
	"testing"

	"chancel/api"
	"chancel/lex"
)

// gaps are what may stand between two tokens.
var gaps = []string{" ", "\t", "\n", "\r", "  ", "\r\n", " \t\n\r", "//\n", "//a\n", "// a -> 1 \"b\n", "///\n", "// //\n", "//\r\n", " //\n ", "//a\n//b\n", "//é€😀\n", "//\x00\x7f@#\\\n", "//\t\v\f\u2028\u0085\n"}

func TestP401BlanksAndRemarks(t *testing.T) {
	for _, gap := range gaps {
		n := len(gap)
		checkTokens(t, gap)
		checkTokens(t, gap+gap)
		checkTokens(t, gap+"a", name("a", n))
		checkTokens(t, "a"+gap, name("a", 0))
		checkTokens(t, "a"+gap+"b", name("a", 0), name("b", 1+n))
		checkTokens(t, "1"+gap+"2", long(1, 0), long(2, 1+n))
		checkTokens(t, ":"+gap+":", sign(":", 0), sign(":", 1+n))
		checkTokens(t, "->"+gap+"->", sign("->", 0), sign("->", 2+n))
		checkTokens(t, `"a"`+gap+`"b"`, quoted("a", 0), quoted("b", 3+n))
		checkTokens(t, gap+gap+"_"+gap+"0", name("_", 2*n), long(0, 3*n+1))
	}
}

func TestP401RemarksUpToTheEnd(t *testing.T) {
	for _, end := range []string{"//", "///", "// a", "//a//b", "// \"", "//\r", "//é", "// \x00", "//@ = & 01", "//\t", "// /"} {
		checkTokens(t, end)
		checkTokens(t, "a"+end, name("a", 0))
		checkTokens(t, "a "+end, name("a", 0))
		checkTokens(t, `"//"`+end, quoted("//", 0))
		checkTokens(t, end+"\rb")
		checkTokens(t, end+"\nb", name("b", len(end)+1))
	}
}

func TestP401Places(t *testing.T) {
	checkTokens(t, "  a\tb\n\nc\r\nd", name("a", 2), name("b", 4), name("c", 7), name("d", 10))
	checkTokens(t, `"é""€""😀"a`, quoted("é", 0), quoted("€", 4), quoted("😀", 9), name("a", 15))
	checkTokens(t, `"\u{e9}"a"\n"1`, quoted("é", 0), name("a", 8), quoted("\n", 9), long(1, 13))
	checkTokens(t, "//é€😀\n+//\ufffd\n-", sign("+", 12), sign("-", 19))
	checkTokens(t, "permit(principal==User::\"al\");",
		name("permit", 0), sign("(", 6), name("principal", 7), sign("==", 16), name("User", 18), sign("::", 22), quoted("al", 24), sign(")", 28), sign(";", 29))
}

// word is a token as it is written, and as it is meant.
type word struct {
	s string
	t lex.Token
}

func wordsOfAllKinds() []word {
	l := []word{
		{"a", name("a", 0)}, {"_9", name("_9", 0)}, {"abcdefghijkl", name("abcdefghijkl", 0)},
		{"0", long(0, 0)}, {"10", long(10, 0)}, {"9223372036854775807", long(1<<63-1, 0)},
		{`""`, quoted("", 0)}, {`"//"`, quoted("//", 0)}, {`"\" é\n"`, quoted("\" é\n", 0)}, {`" a  b "`, quoted(" a  b ", 0)},
	}
	for _, s := range strings.Fields(":: == != <= >= && || -> ( ) { } [ ] , ; : . < > ! + - *") {
		l = append(l, word{s, sign(s, 0)})
	}
	return l
}

// laid writes words with a gap ahead of each and behind the last, and tells what tokens they should be.
func laid(words []word, gap func() string) (string, []lex.Token) {
	s := gap()
	var l []lex.Token
	for _, w := range words {
		w.t.At = len(s)
		l = append(l, w.t)
		s += w.s + gap()
	}
	return s, l
}

func TestP402EachPairOfTokens(t *testing.T) {
	words := wordsOfAllKinds()
	for _, a := range words {
		for _, b := range words {
			for _, gap := range gaps {
				s, want := laid([]word{a, b}, func() string { return gap })
				checkTokens(t, s, want...)
			}
		}
	}
}

func TestP402OnlyPlacesChange(t *testing.T) {
	draw := rand.New(rand.NewSource(4))
	words := wordsOfAllKinds()
	for range 5000 {
		var row []word
		for range draw.Intn(12) {
			row = append(row, words[draw.Intn(len(words))])
		}
		s, want := laid(row, func() string { return gaps[draw.Intn(len(gaps))] })
		if len(s) <= api.MaxText {
			checkTokens(t, s, want...)
		}
	}
}

func TestP402FaultsStayTheSame(t *testing.T) {
	for _, x := range firsts {
		for _, gap := range gaps {
			checkFault(t, gap+x.s+gap, x.want)
			checkFault(t, "a"+gap+x.s+gap+"b", x.want)
			checkFault(t, gap+strings.Repeat("+", 100)+gap+strings.Repeat("+", 100)+gap+x.s, x.want)
			checkFault(t, gap+strings.Repeat("+", 100)+gap+strings.Repeat("+", 101)+gap+x.s, api.ErrMany)
		}
	}
}

func TestP402GapsWithinATokenPartIt(t *testing.T) {
	for _, gap := range gaps {
		checkTokens(t, "a"+gap+"1", name("a", 0), long(1, 1+len(gap)))
		checkTokens(t, "-"+gap+">", sign("-", 0), sign(">", 1+len(gap)))
		checkFault(t, "="+gap+"=", api.ErrToken)
		checkFault(t, "&"+gap+"&", api.ErrToken)
		checkFault(t, "/"+gap+"/", api.ErrToken)
	}
	if l, err := lex.Tokens(`"a b"`); err != api.OK || !slices.Equal(l, []lex.Token{quoted("a b", 0)}) {
		t.Errorf("a blank within a quoted text: %+v, %v", l, err)
	}
}
