package lex_test

import (
	"math/rand"
	"regexp"
	"slices"
	"strconv"
	"strings"
	"testing"
	"unicode/utf8"

	"chancel/api"
	"chancel/lex"
	"chancel/text"
)

// form is what may stand at a place: a gap, a name, a number, a sign.
var form = regexp.MustCompile(`^(?:([ \t\n\r]+|//[^\n]*)|([A-Za-z_][A-Za-z0-9_]*)|([0-9]+)|(::|==|!=|<=|>=|&&|\|\||->|[(){}\[\],;:.<>!+*-]))`)

// plainTokens is the promise told once more, by a regular expression.
func plainTokens(s string) ([]lex.Token, api.Errno) {
	switch {
	case len(s) > 600:
		return nil, api.ErrLong
	case !utf8.ValidString(s):
		return nil, api.ErrRune
	}
	var l []lex.Token
	for at := 0; at < len(s); {
		m := form.FindStringSubmatch(s[at:])
		if m != nil && m[1] != "" {
			at += len(m[0])
			continue
		}
		t, size, err := plainToken(s[at:], m)
		if err == api.OK && len(l) == 200 {
			err = api.ErrMany
		}
		if err != api.OK {
			return nil, err
		}
		t.At = at
		l = append(l, t)
		at += size
	}
	return l, api.OK
}

// plainToken reads what s begins with, m being what form found there.
func plainToken(s string, m []string) (lex.Token, int, api.Errno) {
	switch {
	case s[0] == '"':
		meant, size, err := text.Read(s)
		if err == api.OK && len([]rune(meant)) > 30 {
			err = api.ErrLong
		}
		return quoted(meant, 0), size, err
	case m == nil:
		return lex.Token{}, 0, api.ErrToken
	case len(m[2]) > 12:
		return lex.Token{}, 0, api.ErrLong
	case m[2] != "":
		return name(m[2], 0), len(m[2]), api.OK
	case m[4] != "":
		return sign(m[4], 0), len(m[4]), api.OK
	case m[3] != "0" && m[3][0] == '0':
		return lex.Token{}, 0, api.ErrToken
	}
	n, over := strconv.ParseInt(m[3], 10, 64)
	if over != nil {
		return lex.Token{}, 0, api.ErrOver
	}
	return long(n, 0), len(m[3]), api.OK
}

func checkByPlain(t *testing.T, s string) {
	t.Helper()
	l, err := lex.Tokens(s)
	want, wantErr := plainTokens(s)
	if err != wantErr || !slices.Equal(l, want) {
		t.Fatalf("Tokens(%q): %+v, %v; want %+v, %v", s, l, err, want, wantErr)
	}
}

func TestP401AllPairsOfBytes(t *testing.T) {
	for a := range 256 {
		checkByPlain(t, string([]byte{byte(a)}))
		for b := range 256 {
			checkByPlain(t, string([]byte{byte(a), byte(b)}))
		}
	}
}

func TestP401AllTriplesOfSigns(t *testing.T) {
	const all = "\x00\t\n\r !\"&()*+,-./09:;<=>@AZ[\\]_az{|}\x7f"
	for _, a := range all {
		for _, b := range all {
			for _, c := range all {
				checkByPlain(t, string([]rune{a, b, c}))
			}
		}
	}
}

// checkRows holds all rows of n of the pieces against the promise.
func checkRows(t *testing.T, front string, pieces []string, n int) {
	checkByPlain(t, front)
	if n == 0 {
		return
	}
	for _, p := range pieces {
		checkRows(t, front+p, pieces, n-1)
	}
}

func TestP401AllShortRows(t *testing.T) {
	checkRows(t, "", []string{"a", "0", "9", `"`, `\`, "n", "/", "\n", " ", ":", "=", "-", ">", "é"}, 4)
	checkRows(t, "", []string{`"`, `\`, `\u{`, "d800", "}", "a", "\n", "//"}, 5)
	checkRows(t, "", []string{"/", "\n", "a", `"`}, 7)
}

func TestP401LongRows(t *testing.T) {
	draw := rand.New(rand.NewSource(401))
	pieces := []string{"a", "b_1", "Zz", "_", "0 ", "12", "9223372036854775807", "9223372036854775808 ", "abcdefghijkl ", "abcdefghijklm ", `""`, `"é€"`, `"\u{1F600}\n"`, `"abcdefghijklmnopqrstuvwxyz1234"`, `"abcdefghijklmnopqrstuvwxyz12345"`, `"\u{d800}"`, `"`, "::", "==", "!=", "<=", ">=", "&&", "||", "->", "(", ")", "{", "}", "[", "]", ",", ";", ":", ".", "<", ">", "!", "+", "-", "*", "=", "@", "//", "// é \"\n", "\n", " ", "\t", "\r", "\xff"}
	rare := []string{"9223372036854775808 ", "abcdefghijklm ", `"abcdefghijklmnopqrstuvwxyz12345"`, `"\u{d800}"`, `"`, "=", "@", "//", "\xff"}
	for range 20000 {
		var b strings.Builder
		for range draw.Intn(260) {
			p := pieces[draw.Intn(len(pieces))]
			// Faults are rare, else hardly a row would be read up to its end.
			if slices.Contains(rare, p) && draw.Intn(100) > 0 {
				p = ";"
			}
			b.WriteString(p)
			if draw.Intn(3) == 0 {
				b.WriteString(" ")
			}
		}
		checkByPlain(t, b.String())
	}
}

func TestP1AnyBytes(t *testing.T) {
	draw := rand.New(rand.NewSource(1))
	for range 20000 {
		b := make([]byte, draw.Intn(700))
		for i := range b {
			b[i] = byte(draw.Intn(256)) & byte(draw.Intn(256))
		}
		checkByPlain(t, string(b))
		lex.Ident(string(b))
	}
	huge := strings.Repeat("a", 1<<24)
	checkFault(t, huge, api.ErrLong)
	if lex.Ident(huge) {
		t.Error("a name of many bytes")
	}
}

func TestP2AnswersAreNewMemory(t *testing.T) {
	const s = `a -> 1 "b"`
	first, _ := lex.Tokens(s)
	first = append(first, sign("!", 0))
	clear(first[:cap(first)])
	checkTokens(t, s, name("a", 0), sign("->", 2), long(1, 5), quoted("b", 7))
	checkTokens(t, s, name("a", 0), sign("->", 2), long(1, 5), quoted("b", 7))
}
