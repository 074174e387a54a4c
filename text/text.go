// Package text: texts, rune by rune. See doc/01-text.md.
package text

import (
	"strings"
	"unicode/utf8"

	"chancel/api"
)

// replacement is the rune that a range over a text tells for bytes that are no rune, as it is written where it is meant.
const replacement = "\uFFFD"

// Check tells whether s is a row of runes, each in the least number of bytes.
func Check(s string) api.Errno {
	for at, r := range s {
		if broken(s, at, r) {
			return api.ErrRune
		}
	}
	return api.OK
}

// broken tells whether the bytes of s at a place, of which a range over s tells r, are no rune: the range tells the same rune for such bytes as for the replacement itself, so the bytes must be looked at.
func broken(s string, at int, r rune) bool {
	return r == utf8.RuneError && !strings.HasPrefix(s[at:], replacement)
}

// Runes tells the runes of a text.
func Runes(s string) []rune {
	var l []rune
	for _, r := range s {
		l = append(l, r)
	}
	return l
}

// Of makes a text of runes.
func Of(l []rune) (string, api.Errno) {
	var b strings.Builder
	for _, r := range l {
		if !utf8.ValidRune(r) {
			return "", api.ErrRune
		}
		b.WriteRune(r)
	}
	return b.String(), api.OK
}
