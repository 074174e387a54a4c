// Package names: what a name is (W5), and which signs it is made of, told once for all layers.
package names

import "chancel/api"

// Is tells whether s is a name. Its signs are all of one byte, so its bytes may be counted.
func Is(s string) bool {
	for at, r := range s {
		if at == 0 && !Begins(r) || !GoesOn(r) {
			return false
		}
	}
	return 0 < len(s) && len(s) <= api.MaxIdent
}

// Begins tells whether a name may begin with r.
func Begins(r rune) bool {
	return 'A' <= r && r <= 'Z' || 'a' <= r && r <= 'z' || r == '_'
}

// GoesOn tells whether r may stand behind a name's first sign.
func GoesOn(r rune) bool {
	return Begins(r) || IsDigit(r)
}

// IsDigit tells whether r is a decimal digit.
func IsDigit(r rune) bool {
	return '0' <= r && r <= '9'
}
