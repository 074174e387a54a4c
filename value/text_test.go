package value_test

import (
	"strings"
	"testing"

	"chancel/api"
	"chancel/num"
	"chancel/text"
	"chancel/value"
)

func checkText(t *testing.T, v api.Value, want string) {
	t.Helper()
	if s := value.Text(v); s != want {
		t.Errorf("Text(%#v): %s; want %s", v, s, want)
	}
}

func TestP303Text(t *testing.T) {
	for _, c := range []struct {
		v    api.Value
		want string
	}{
		{truth(true), "true"},
		{truth(false), "false"},
		{long(0), "0"},
		{long(-5), "-5"},
		{long(1<<63 - 1), "9223372036854775807"},
		{long(-1 << 63), "-9223372036854775808"},
		{str(""), `""`},
		{str("true"), `"true"`},
		{str("a\"\\\n\t\x00\x1f\x7fé€😀"), `"a\"\\\n\t\u{0}\u{1f}\u{7f}é€😀"`},
		{uid("User", "al"), `User::"al"`},
		{uid("_9", ""), `_9::""`},
		{uid("A", "a::\"b\"\n"), `A::"a::\"b\"\n"`},
		{set(), "[]"},
		{set(truth(false), truth(true)), "[false, true]"},
		{set(long(-1)), "[-1]"},
		{set(long(-1), long(0), long(10)), "[-1, 0, 10]"},
		{set(str(""), str(", "), str("]")), `["", ", ", "]"]`},
		{set(uid("A", "\n"), uid("B", "b")), `[A::"\n", B::"b"]`},
		{set(numbers(8)...), "[-3, -2, -1, 0, 1, 2, 3, 4]"},
		{str(strings.Repeat("😀", 30)), `"` + strings.Repeat("😀", 30) + `"`},
	} {
		checkText(t, c.v, c.want)
	}
}

func TestP303TextIsThatOfTheLayersBelow(t *testing.T) {
	for _, n := range []int64{-1 << 63, -1000, -1, 0, 1, 99, 1<<63 - 1} {
		checkText(t, long(n), num.Text(n))
	}
	for r := rune(0); r < 0x3000; r++ {
		s := "a" + string(r)
		checkText(t, str(s), text.Quote(s))
		checkText(t, uid("T", s), "T::"+text.Quote(s))
		checkText(t, set(str(s)), "["+text.Quote(s)+"]")
	}
}

func TestP303UnlikeValuesHaveUnlikeTexts(t *testing.T) {
	seen := map[string]api.Value{}
	for _, v := range rising() {
		s := value.Text(v)
		if other, ok := seen[s]; ok {
			t.Errorf("%#v and %#v: %s", v, other, s)
		}
		seen[s] = v
	}
}

func TestExample1(t *testing.T) {
	if s, err := value.Set(long(2), long(1), long(2)); err != api.OK || value.Text(s) != "[1, 2]" {
		t.Errorf("Set(2, 1, 2): %s, %v", value.Text(s), err)
	}
}
