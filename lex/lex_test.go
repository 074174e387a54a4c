package lex_test

import (
	"math"
	"slices"
	"strings"
	"testing"

	"chancel/api"
	"chancel/lex"
)

func name(s string, at int) lex.Token   { return lex.Token{Kind: 1, Text: s, At: at} }
func long(n int64, at int) lex.Token    { return lex.Token{Kind: 2, N: n, At: at} }
func quoted(s string, at int) lex.Token { return lex.Token{Kind: 3, Text: s, At: at} }
func sign(s string, at int) lex.Token   { return lex.Token{Kind: 4, Text: s, At: at} }

func checkTokens(t *testing.T, s string, want ...lex.Token) {
	t.Helper()
	if l, err := lex.Tokens(s); err != api.OK || !slices.Equal(l, want) {
		t.Errorf("Tokens(%q): %+v, %v; want %+v", s, l, err, want)
	}
}

func checkFault(t *testing.T, s string, want api.Errno) {
	t.Helper()
	if l, err := lex.Tokens(s); err != want || len(l) != 0 {
		t.Errorf("Tokens(%q): %+v, %v; want %v", s, l, err, want)
	}
}

func TestP401Ident(t *testing.T) {
	for _, s := range []string{"a", "z", "A", "Z", "_", "__", "a9", "_0", "if", "true", "Set", "a_B_3", "abcdefghijkl", "____________", "A12345678901"} {
		if !lex.Ident(s) {
			t.Errorf("Ident(%q): false", s)
		}
	}
	for _, s := range []string{"", "0", "9", "0a", "1_", "-", "a-b", "a b", " a", "a ", "a\n", "\ta", "a.b", "a::b", "a//b", `"a"`, "é", "aé", "ａ", "a١", "a\x00", "\x00", "\xff", "a\xff", "a\xc3", "\ufffd", "@", "[", "`", "{", "/", ":", "abcdefghijklm", "_____________", "abcdefghijkl9", "abcdefghijklé", strings.Repeat("a", 256+1), strings.Repeat("é", 6)} {
		if lex.Ident(s) {
			t.Errorf("Ident(%q): true", s)
		}
	}
}

func TestP401IdentOfShortOnes(t *testing.T) {
	const letters = "ABCDEFGHIJKLMNOPQRSTUVWXYZabcdefghijklmnopqrstuvwxyz_"
	for a := range 256 {
		first := string([]byte{byte(a)})
		begins := strings.Contains(letters, first)
		if lex.Ident(first) != begins {
			t.Errorf("Ident(%q): %v", first, !begins)
		}
		for b := range 256 {
			second := string([]byte{byte(b)})
			want := begins && strings.Contains(letters+"0123456789", second)
			if lex.Ident(first+second) != want {
				t.Errorf("Ident(%q): %v", first+second, !want)
			}
		}
	}
}

func TestP401KindsAreNumbered(t *testing.T) {
	if lex.Name != 1 || lex.Long != 2 || lex.Str != 3 || lex.Sign != 4 {
		t.Error(lex.Name, lex.Long, lex.Str, lex.Sign)
	}
}

func TestP401Example(t *testing.T) {
	checkTokens(t, "a->1", name("a", 0), sign("->", 1), long(1, 3))
}

func TestP401Nothing(t *testing.T) {
	checkTokens(t, "")
	checkTokens(t, " ")
	checkTokens(t, "//")
	checkTokens(t, "// a\n")
}

func TestP401Names(t *testing.T) {
	for _, s := range []string{"a", "Z", "_", "_0", "a1b2", "if", "true", "permit", "abcdefghijk", "abcdefghijkl", "____________", "_00000000000"} {
		checkTokens(t, s, name(s, 0))
	}
	for _, s := range []string{"abcdefghijklm", "_____________", "a123456789012", strings.Repeat("a", 24), strings.Repeat("z", 256+4), strings.Repeat("a", 599)} {
		checkFault(t, s, api.ErrLong)
		checkFault(t, s+"@", api.ErrLong)
	}
	checkTokens(t, "abcdefghijkl m", name("abcdefghijkl", 0), name("m", 13))
	checkTokens(t, "abcdefghijkl.mnopqrstuvwx", name("abcdefghijkl", 0), sign(".", 12), name("mnopqrstuvwx", 13))
	checkTokens(t, "1abcdefghijkl", long(1, 0), name("abcdefghijkl", 1))
}

func TestP401Numbers(t *testing.T) {
	for _, x := range []struct {
		s string
		n int64
	}{
		{"0", 0}, {"1", 1}, {"9", 9}, {"10", 10}, {"100", 100}, {"1234567890", 1234567890},
		{"9223372036854775806", math.MaxInt64 - 1}, {"9223372036854775807", math.MaxInt64},
	} {
		checkTokens(t, x.s, long(x.n, 0))
		checkTokens(t, "-"+x.s, sign("-", 0), long(x.n, 1))
		checkTokens(t, x.s+"a0", long(x.n, 0), name("a0", len(x.s)))
		checkTokens(t, x.s+"_", long(x.n, 0), name("_", len(x.s)))
		checkTokens(t, x.s+" 0", long(x.n, 0), long(0, len(x.s)+1))
		checkTokens(t, x.s+".5", long(x.n, 0), sign(".", len(x.s)), long(5, len(x.s)+1))
	}
	for _, s := range []string{"9223372036854775808", "9223372036854775810", "9999999999999999999", "10000000000000000000", "18446744073709551615", "18446744073709551616", "18446744073709551617", strings.Repeat("9", 599)} {
		checkFault(t, s, api.ErrOver)
		checkFault(t, "-"+s, api.ErrOver)
	}
	for _, s := range []string{"00", "01", "007", "0000000000000000000001", "09223372036854775808", strings.Repeat("0", 600)} {
		checkFault(t, s, api.ErrToken)
	}
	checkTokens(t, "0 1", long(0, 0), long(1, 2))
	checkTokens(t, "0x1f", long(0, 0), name("x1f", 1))
	checkFault(t, "1٣", api.ErrToken)
}

func TestP401Signs(t *testing.T) {
	two := []string{"::", "==", "!=", "<=", ">=", "&&", "||", "->"}
	one := strings.Split("(){}[],;:.<>!+-*", "")
	if len(one) != 16 {
		t.Fatal(one)
	}
	for _, s := range append(two, one...) {
		checkTokens(t, s, sign(s, 0))
		checkTokens(t, s+"a", sign(s, 0), name("a", len(s)))
		checkTokens(t, "a"+s, name("a", 0), sign(s, 1))
		checkTokens(t, s+" "+s, sign(s, 0), sign(s, len(s)+1))
	}
	for _, s := range two {
		checkTokens(t, s+s, sign(s, 0), sign(s, 2))
	}
}

func TestP401SignsOfTwoAreTakenFirst(t *testing.T) {
	checkTokens(t, ":::", sign("::", 0), sign(":", 2))
	checkTokens(t, ": :", sign(":", 0), sign(":", 2))
	checkTokens(t, "-->", sign("-", 0), sign("->", 1))
	checkTokens(t, "- >", sign("-", 0), sign(">", 2))
	checkTokens(t, "->>=", sign("->", 0), sign(">=", 2))
	checkTokens(t, "<<=", sign("<", 0), sign("<=", 1))
	checkTokens(t, "<-", sign("<", 0), sign("-", 1))
	checkTokens(t, "<>", sign("<", 0), sign(">", 1))
	checkTokens(t, "!!=", sign("!", 0), sign("!=", 1))
	checkTokens(t, "!===", sign("!=", 0), sign("==", 2))
	checkTokens(t, ">===", sign(">=", 0), sign("==", 2))
	checkTokens(t, "*==", sign("*", 0), sign("==", 1))
	checkTokens(t, "++", sign("+", 0), sign("+", 1))
	checkTokens(t, "**", sign("*", 0), sign("*", 1))
	checkTokens(t, "..", sign(".", 0), sign(".", 1))
}

func TestP401WhatBeginsLikeASignOfTwo(t *testing.T) {
	for _, s := range []string{":", "!", "<", ">", "-"} {
		for _, behind := range []string{"a", "(", ".", "!", "+"} {
			l, err := lex.Tokens(s + behind)
			if err != api.OK || len(l) != 2 || l[0] != sign(s, 0) || l[1].At != 1 || l[1].Text != behind {
				t.Errorf("Tokens(%q): %+v, %v", s+behind, l, err)
			}
		}
	}
	for _, s := range []string{"=", "&", "|"} {
		checkFault(t, s, api.ErrToken)
		for _, behind := range []string{"a", "1", " ", "(", "<", "->", " " + s, "//" + s, "\n" + s, `""`} {
			checkFault(t, s+behind, api.ErrToken)
			checkFault(t, s+s+s+behind, api.ErrToken)
		}
	}
	for _, s := range []string{"=>", "=<", "=!", "===", "!==", "<==", ">==", "->=", "&|", "|&", "&&&", "|||", ":=", "+=", "-="} {
		checkFault(t, s, api.ErrToken)
	}
}

func TestP401Quoted(t *testing.T) {
	for _, x := range []struct{ s, meant string }{
		{`""`, ""},
		{`"a"`, "a"},
		{`"a b\tc"`, "a b\tc"},
		{`"\\\"\n\t"`, "\\\"\n\t"},
		{`"\u{0}\u{7F}\u{7f}\u{10ffff}\u{00e9}"`, "\x00\x7f\x7f\U0010ffffé"},
		{`"// no remark"`, "// no remark"},
		{`"1 == 'x' @ = & | /"`, "1 == 'x' @ = & | /"},
		{"\"é€😀\ufffd\x7f\"", "é€😀\ufffd\x7f"},
	} {
		checkTokens(t, x.s, quoted(x.meant, 0))
		checkTokens(t, x.s+x.s, quoted(x.meant, 0), quoted(x.meant, len(x.s)))
		checkTokens(t, "a"+x.s+"1", name("a", 0), quoted(x.meant, 1), long(1, 1+len(x.s)))
	}
}

func TestP401QuotedByRunes(t *testing.T) {
	for _, one := range []string{"a", " ", "/", "\x7f", "é", "€", "\ufffd", "😀", "\U0010ffff", `\n`, `\"`, `\\`, `\u{0}`, `\u{e9}`, `\u{10FFFF}`} {
		for _, n := range []int{0, 1, 7, 8, 14, 15, 16, 29, 30, 31, 32, 45} {
			s := `"` + strings.Repeat(one, n) + `"`
			l, err := lex.Tokens(s)
			if n > 30 {
				checkFault(t, s, api.ErrLong)
			} else if err != api.OK || len(l) != 1 || len([]rune(l[0].Text)) != n {
				t.Errorf("Tokens(%q): %+v, %v", s, l, err)
			}
		}
	}
	checkTokens(t, `"`+strings.Repeat("a", 29)+`😀"`, quoted(strings.Repeat("a", 29)+"😀", 0))
	checkFault(t, `"`+strings.Repeat("a", 29)+`😀a"`, api.ErrLong)
	checkFault(t, `"`+strings.Repeat("a", 29)+`\u{0}\u{0}"`, api.ErrLong)
	checkFault(t, `"`+strings.Repeat("a", 598)+`"`, api.ErrLong)
}
