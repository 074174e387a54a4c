package text

import (
	"strconv"
	"strings"
	"unicode/utf8"

	"chancel/api"
)

const (
	firstPlain = 32  // runes below it are not written as they are
	deleteRune = 127 // neither is this one
	opening    = `\u{`
	maxDigits  = 6
)

// Quote writes a text as one of the language.
func Quote(s string) string {
	var b strings.Builder
	b.WriteByte('"')
	for _, r := range s {
		b.WriteString(quoted(r))
	}
	b.WriteByte('"')
	return b.String()
}

// quoted tells how a rune is written between quotation marks.
func quoted(r rune) string {
	switch {
	case r == '\\' || r == '"':
		return `\` + string(r)
	case r == '\n':
		return `\n`
	case r == '\t':
		return `\t`
	case r < firstPlain || r == deleteRune:
		return opening + strconv.FormatInt(int64(r), 16) + "}"
	}
	return string(r)
}

// Read takes a quoted text at the beginning of s: the text, and how many bytes it took.
func Read(s string) (string, int, api.Errno) {
	if !strings.HasPrefix(s, `"`) {
		return "", 0, api.ErrToken
	}
	var meant strings.Builder
	next := 1 // the range goes on rune by rune, so those of an escape that was read whole are passed over
	for at, r := range s {
		if at < next {
			continue
		}
		if r == '"' {
			return meant.String(), at + 1, api.OK
		}
		if broken(s, at, r) {
			return "", 0, api.ErrRune
		}
		one, size, err := readOne(s[at:], r)
		if err != api.OK {
			return "", 0, err
		}
		meant.WriteRune(one)
		next = at + size
	}
	return "", 0, api.ErrToken
}

// readOne reads what s begins with, its first rune being r: the rune that is meant, and how many bytes it took.
func readOne(s string, r rune) (rune, int, api.Errno) {
	switch {
	case r < firstPlain:
		return 0, 0, api.ErrToken
	case r == '\\':
		return readEscape(s)
	}
	return r, utf8.RuneLen(r), api.OK
}

// readEscape reads an escape, with whose backslash s begins.
func readEscape(s string) (rune, int, api.Errno) {
	if digits, ok := strings.CutPrefix(s, opening); ok {
		r, size, err := readDigits(digits)
		if err != api.OK {
			return 0, 0, err
		}
		return r, len(opening) + size, api.OK
	}
	if len(s) < 2 {
		return 0, 0, api.ErrToken
	}
	switch s[1] {
	case '\\', '"':
		return rune(s[1]), 2, api.OK
	case 'n':
		return '\n', 2, api.OK
	case 't':
		return '\t', 2, api.OK
	}
	return 0, 0, api.ErrToken
}

// readDigits reads a rune's hexadecimal digits up to the closing brace, it among them. Whether they are a rune is asked behind the brace: without one they are no escape at all.
func readDigits(s string) (rune, int, api.Errno) {
	var n rune
	for at, c := range s {
		if c == '}' && at > 0 {
			if !utf8.ValidRune(n) {
				return 0, 0, api.ErrRune
			}
			return n, at + 1, api.OK
		}
		d, ok := digit(c)
		if !ok || at == maxDigits {
			return 0, 0, api.ErrToken
		}
		n = n<<4 | d
	}
	return 0, 0, api.ErrToken
}

// digit tells what a hexadecimal digit counts, and whether it is one.
func digit(c rune) (rune, bool) {
	switch {
	case '0' <= c && c <= '9':
		return c - '0', true
	case 'a' <= c && c <= 'f':
		return c - 'a' + 10, true
	case 'A' <= c && c <= 'F':
		return c - 'A' + 10, true
	}
	return 0, false
}
