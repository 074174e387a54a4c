package names_test

import (
	"strings"
	"testing"
	"unicode/utf8"

	"chancel/names"
)

const (
	letters = "ABCDEFGHIJKLMNOPQRSTUVWXYZabcdefghijklmnopqrstuvwxyz_"
	digits  = "0123456789"
)

func TestW5EachRune(t *testing.T) {
	for r := rune(-2); r <= utf8.MaxRune+2; r++ {
		letter, digit := strings.ContainsRune(letters, r), strings.ContainsRune(digits, r)
		// What ContainsRune finds of numbers that are no runes is not asked here.
		if !utf8.ValidRune(r) {
			letter, digit = false, false
		}
		if names.Begins(r) != letter {
			t.Errorf("Begins(%U): %v", r, !letter)
		}
		if names.IsDigit(r) != digit {
			t.Errorf("IsDigit(%U): %v", r, !digit)
		}
		if names.GoesOn(r) != (letter || digit) {
			t.Errorf("GoesOn(%U): %v", r, !letter && !digit)
		}
	}
}

func TestW5Names(t *testing.T) {
	for _, s := range []string{"A", "z", "_", "a0", "_9", "__", "User", "if", "true", "a_b_c", "abcdefghijkl", "____________", "A00000000009"} {
		if !names.Is(s) {
			t.Errorf("Is(%q): false", s)
		}
	}
	for _, s := range []string{"", "0", "0a", "9_", "-", "a-", " a", "a ", "a\n", "a.b", "a::b", "é", "aé", "a\x00", "\xff", "a\xff", "\ufffd", "abcdefghijklm", "_____________", "abcdefghijklé", strings.Repeat("é", 6)} {
		if names.Is(s) {
			t.Errorf("Is(%q): true", s)
		}
	}
}
