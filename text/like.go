package text

import "strings"

// Like tells whether a text is like a pattern: a star stands for any runes.
//
// The pattern's pieces between its stars are held against the text byte by byte: a piece that is a text can't begin within a rune of another one.
func Like(s, pattern string) bool {
	from, starred := 0, false
	for at, r := range pattern {
		if r != '*' {
			continue
		}
		rest, ok := behind(s, pattern[from:at], starred)
		if !ok {
			return false
		}
		s, from, starred = rest, at+1, true
	}
	last := pattern[from:]
	if !starred {
		return s == last
	}
	return strings.HasSuffix(s, last)
}

// behind tells what of s stands behind a piece of a pattern. Behind a star the piece is taken where it first stands: that leaves the most to the pieces that follow.
func behind(s, piece string, starred bool) (string, bool) {
	if !starred {
		return strings.CutPrefix(s, piece)
	}
	_, rest, ok := strings.Cut(s, piece)
	return rest, ok
}
