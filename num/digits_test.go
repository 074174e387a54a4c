package num_test

import (
	"math/big"
	"strings"
	"testing"

	"chancel/api"
	"chancel/num"
)

// plainParse is the promise told once more, by numbers without bounds.
func plainParse(s string) (int64, api.Errno) {
	if strings.Trim(s, "0123456789") != "" || s == "" || len(s) > 1 && s[0] == '0' {
		return 0, api.ErrToken
	}
	n, _ := new(big.Int).SetString(s, 10)
	return narrow(n)
}

func checkParse(t *testing.T, s string, want int64, wantErr api.Errno) {
	t.Helper()
	if n, err := num.Parse(s); n != want || err != wantErr {
		t.Errorf("Parse(%q): %d, %v; want %d, %v", s, n, err, want, wantErr)
	}
}

func TestP201Text(t *testing.T) {
	for _, a := range numbers() {
		if s := num.Text(a); s != big.NewInt(a).String() {
			t.Errorf("Text(%d): %q", a, s)
		}
	}
	for _, c := range []struct {
		a    int64
		want string
	}{
		{0, "0"},
		{7, "7"},
		{-7, "-7"},
		{10, "10"},
		{-100, "-100"},
		{greatest, "9223372036854775807"},
		{greatest - 1, "9223372036854775806"},
		{least, "-9223372036854775808"},
		{least + 1, "-9223372036854775807"},
	} {
		if s := num.Text(c.a); s != c.want {
			t.Errorf("Text(%d): %q; want %q", c.a, s, c.want)
		}
	}
}

func TestP201ParseTakesWhatTextWrote(t *testing.T) {
	for _, a := range numbers() {
		if a >= 0 {
			checkParse(t, num.Text(a), a, api.OK)
		} else {
			checkParse(t, num.Text(a), 0, api.ErrToken)
		}
	}
}

func TestP201ParseAtBounds(t *testing.T) {
	checkParse(t, "0", 0, api.OK)
	checkParse(t, "1", 1, api.OK)
	checkParse(t, "10", 10, api.OK)
	checkParse(t, "1000000000000000000", 1000000000000000000, api.OK)
	checkParse(t, "9223372036854775806", greatest-1, api.OK)
	checkParse(t, "9223372036854775807", greatest, api.OK)
	for _, s := range []string{
		"9223372036854775808",
		"9223372036854775809",
		"9223372036854775810",
		"9223372036854775817",
		"9300000000000000000",
		"9999999999999999999",
		"10000000000000000000",
		// Those that would be of 64 bits again, had they wrapped round.
		"18446744073709551615",
		"18446744073709551616",
		"18446744073709551617",
		"340282366920938463463374607431768211456",
		"1" + strings.Repeat("0", 1000),
		strings.Repeat("9", 1000),
	} {
		checkParse(t, s, 0, api.ErrOver)
	}
}

func TestP201ParseRefusesWhatIsNoNumber(t *testing.T) {
	for _, s := range []string{
		"",
		"00", "01", "007", "0000000000000000000000000", "09223372036854775808", "0" + strings.Repeat("9", 40),
		"+1", "-1", "-0", "+0", "-", "+", "--1", "-9223372036854775808", "\u22121",
		" ", " 1", "1 ", "1 2", "1\n", "\t1", "\x00", "1\x00", "\ufeff1",
		"a", "1a", "a1", "1a1", "0x1", "0a", "0b1", "1e3", "1.0", "1.", ".1", "1_0", "1,0", "/", ":", "1/", "1:",
		"\u0661", "\u0967", "\uff11", "1\u0660", "\u00b2", "\u2160", "\U0001d7d8",
		"\xff", "1\xff", "\xe2\x82", "1\xc0\xb1", "\xc0\xb0", "\ufffd", "1\ufffd",
	} {
		checkParse(t, s, 0, api.ErrToken)
	}
}

// A sign that is no digit, and a nought ahead, count before a number that is too great.
func TestP201ParseTokenAheadOfOver(t *testing.T) {
	great := strings.Repeat("9", 30)
	for _, s := range []string{great + "a", "a" + great, great + "a" + great, great + " ", "-" + great, "0" + great, great + "\xff", great + "\u0661", "9223372036854775808a"} {
		checkParse(t, s, 0, api.ErrToken)
	}
}

func TestP201ParseEveryRune(t *testing.T) {
	for r := rune(0); r <= 0x10ffff; r++ {
		if 0xd800 <= r && r <= 0xdfff {
			continue
		}
		want, wantErr, behindFour := int64(0), api.ErrToken, int64(0)
		if '0' <= r && r <= '9' {
			want, wantErr, behindFour = int64(r-'0'), api.OK, 40+int64(r-'0')
		}
		checkParse(t, string(r), want, wantErr)
		checkParse(t, "4"+string(r), behindFour, wantErr)
		if t.Failed() {
			return
		}
	}
}

func TestP201ParseShortTexts(t *testing.T) {
	for size := range 6 {
		rows("0159a- ", size, func(s string) {
			want, wantErr := plainParse(s)
			checkParse(t, s, want, wantErr)
		})
	}
}

// Around 2^63, with noughts ahead and signs behind, every last row of digits.
func TestP201ParseLastDigits(t *testing.T) {
	for _, front := range []string{"", "0", "1", "9", "922337203685477", "92233720368547", "18446744073709", "1844674407370955", "09223372036854775"} {
		for _, behind := range []string{"", "a", "0"} {
			rows("0123456789", 4, func(s string) {
				s = front + s + behind
				want, wantErr := plainParse(s)
				checkParse(t, s, want, wantErr)
			})
		}
	}
}

// rows calls f with every row of n of the bytes.
func rows(bytes string, n int, f func(s string)) {
	if n == 0 {
		f("")
		return
	}
	rows(bytes, n-1, func(s string) {
		for i := range len(bytes) {
			f(s + bytes[i:i+1])
		}
	})
}
