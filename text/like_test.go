package text_test

import (
	"strings"
	"testing"

	"chancel/text"
)

// plainLike is the promise, tried out rune by rune.
func plainLike(s, pattern []rune) bool {
	if len(pattern) == 0 {
		return len(s) == 0
	}
	if pattern[0] != '*' {
		return len(s) > 0 && s[0] == pattern[0] && plainLike(s[1:], pattern[1:])
	}
	for n := range len(s) + 1 {
		if plainLike(s[n:], pattern[1:]) {
			return true
		}
	}
	return false
}

// textsOf tells all rows of at most n of the runes.
func textsOf(runes []rune, n int) [][]rune {
	l := [][]rune{nil}
	for from := 0; n > 0; n-- {
		to := len(l)
		for _, s := range l[from:to] {
			for _, r := range runes {
				l = append(l, append(append([]rune(nil), s...), r))
			}
		}
		from = to
	}
	return l
}

func TestP104AllShortOnes(t *testing.T) {
	for _, runes := range [][]rune{{'a', 'b'}, {0xe9, 0xe8}, {'a', '*'}, {0x20ac, 0xfffd}} {
		for _, pattern := range textsOf(append([]rune{'*'}, runes...), 5) {
			for _, s := range textsOf(runes, 5) {
				got, want := text.Like(string(s), string(pattern)), plainLike(s, pattern)
				if got != want {
					t.Fatalf("Like(%q, %q): %v", string(s), string(pattern), got)
				}
			}
		}
	}
}

func TestP104Like(t *testing.T) {
	for _, x := range []struct {
		s, pattern string
		want       bool
	}{
		{"", "", true},
		{"a", "", false},
		{"", "a", false},
		{"abc", "abc", true},
		{"abc", "ab", false},
		{"abc", "abcd", false},
		{"abc", "bc", false},
		{"abc", "ABC", false},
		{"", "*", true},
		{"", "***", true},
		{"é\n\x00", "*", true},
		{"é\n\x00", "****", true},
		{"", "*a", false},
		{"", "a*", false},
		{"abc", "abc*", true},
		{"abc", "*abc", true},
		{"abc", "*abc*", true},
		{"abc", "a*c", true},
		{"abc", "a**c", true},
		{"abc", "a*b", false},
		{"abcab", "a*b", true},
		{"ab", "ab*b", false},
		{"a", "a*a", false},
		{"aa", "a*a", true},
		{"aba", "ab*ba", false},
		{"abba", "ab*ba", true},
		{"aXbXc", "a*X*c", true},
		{"abcbd", "*b*d", true},
		{"abcdbc", "*bc*bc", true},
		{"abcbc", "*bcb*bc", false},
		{"mississippi", "m*iss*iss*pi", true},
		{"mississippi", "m*issi*issi*ssi*", false},
		{"a*c", "a*c", true},
		{"*", `\*`, false},
		{`\x`, `\*`, true},
		{"a?c", "a?c", true},
		{"abc", "a?c", false},
		{"a.c", "a.c", true},
		{"abc", "[a]*", false},
		{"é€😀", "é*😀", true},
		{"é€😀", "*€*", true},
		{"é€😀", "*è*", false},
		{"è", "é", false},
		{"\ufffd", "*\ufffd", true},
		{"\ufffe", "*\ufffd*", false},
	} {
		if got := text.Like(x.s, x.pattern); got != x.want {
			t.Errorf("Like(%q, %q): %v", x.s, x.pattern, got)
		}
	}
}

func TestP104LongOnesEnd(t *testing.T) {
	long := strings.Repeat("a", 200000)
	if text.Like(long, strings.Repeat("*a", 20000)+"b") {
		t.Error("many stars, no b")
	}
	if text.Like(long, "*"+strings.Repeat("a", 100000)+"b*") {
		t.Error("a long piece, no b")
	}
	if !text.Like(long+"b", strings.Repeat("*a", 20000)+"*b") {
		t.Error("many stars")
	}
}
