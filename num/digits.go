package num

import (
	"strconv"
	"strings"

	"chancel/api"
)

// Text writes a number.
func Text(a int64) string {
	return strconv.FormatInt(a, 10)
}

// Parse reads a number that is not below 0.
func Parse(s string) (int64, api.Errno) {
	// All of s ahead of the sum: a sign that is no digit counts before a number that is too great, wherever it stands.
	if !isNumber(s) {
		return 0, api.ErrToken
	}
	n := int64(0)
	for _, r := range s {
		tens, err := Mul(n, 10)
		if err != api.OK {
			return 0, err
		}
		if n, err = Add(tens, int64(r-'0')); err != api.OK {
			return 0, err
		}
	}
	return n, api.OK
}

// isNumber tells whether s is digits, one at least, with no nought ahead of others.
func isNumber(s string) bool {
	for _, r := range s {
		if r < '0' || r > '9' {
			return false
		}
	}
	return s == "0" || s != "" && !strings.HasPrefix(s, "0")
}
