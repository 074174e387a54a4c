package lex

import (
	"strings"
	"unicode/utf8"

	"chancel/api"
	"chancel/names"
	"chancel/num"
	"chancel/text"
)

// remark is what begins one.
const remark = "//"

// signs are all there are, those of two bytes ahead: the first that fits is taken.
var signs = [...]string{
	"::", "==", "!=", "<=", ">=", "&&", "||", "->",
	"(", ")", "{", "}", "[", "]", ",", ";", ":", ".", "<", ">", "!", "+", "-", "*",
}

// gapOf tells how many bytes of a blank or a remark s begins with, its first rune being r.
func gapOf(s string, r rune) int {
	switch {
	case r == ' ' || r == '\t' || r == '\n' || r == '\r':
		return 1
	case strings.HasPrefix(s, remark):
		return len(rowOf(s, isInLine))
	}
	return 0
}

// isInLine tells whether r is of the line that it stands in: a line feed isn't, being a blank of its own.
func isInLine(r rune) bool {
	return r != '\n'
}

// rowOf tells the runes that s begins with, as many as belong.
func rowOf(s string, belongs func(rune) bool) string {
	for at, r := range s {
		if !belongs(r) {
			return s[:at]
		}
	}
	return s
}

// tokenOf reads the token that s begins with, its first rune being r, and tells how many bytes it took.
func tokenOf(s string, r rune) (Token, int, api.Errno) {
	switch {
	case names.Begins(r):
		return nameOf(rowOf(s, names.GoesOn))
	case names.IsDigit(r):
		return longOf(rowOf(s, names.IsDigit))
	case r == '"':
		return strOf(s)
	}
	return signOf(s)
}

func nameOf(row string) (Token, int, api.Errno) {
	if len(row) > api.MaxIdent {
		return Token{}, 0, api.ErrLong
	}
	// Not the row itself, which is a piece of the source.
	return Token{Kind: Name, Text: strings.Clone(row)}, len(row), api.OK
}

func longOf(row string) (Token, int, api.Errno) {
	n, err := num.Parse(row)
	if err != api.OK {
		return Token{}, 0, err
	}
	return Token{Kind: Long, N: n}, len(row), api.OK
}

func strOf(s string) (Token, int, api.Errno) {
	meant, size, err := text.Read(s)
	if err != api.OK {
		return Token{}, 0, err
	}
	if utf8.RuneCountInString(meant) > api.MaxString {
		return Token{}, 0, api.ErrLong
	}
	return Token{Kind: Str, Text: meant}, size, api.OK
}

func signOf(s string) (Token, int, api.Errno) {
	for _, sign := range signs {
		if strings.HasPrefix(s, sign) {
			return Token{Kind: Sign, Text: sign}, len(sign), api.OK
		}
	}
	return Token{}, 0, api.ErrToken
}
