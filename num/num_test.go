package num_test

import (
	"math"
	"math/big"
	"math/rand"
	"testing"

	"chancel/api"
	"chancel/num"
)

const (
	least    = math.MinInt64
	greatest = math.MaxInt64
)

// numbers tells those at the bounds, at their parts and roots, around every power of two and of ten, and some between; each once.
func numbers() []int64 {
	seen := map[int64]int{}
	var l []int64
	around := func(n int64) {
		for d := int64(-3); d <= 3; d++ {
			if seen[n+d]++; seen[n+d] == 1 {
				l = append(l, n+d)
			}
		}
	}
	// Those beyond a bound wrap round to the other one's neighbours.
	for _, n := range []int64{0, greatest, least} {
		for part := int64(1); part <= 10; part++ {
			around(n / part)
		}
	}
	for bit := range 63 {
		around(1 << bit)
		around(-1 << bit)
	}
	for ten := int64(1); ten <= greatest/10; ten *= 10 {
		around(ten)
		around(-ten)
	}
	// The roots of 2^63, and of half of it.
	around(3037000499)
	around(-3037000499)
	around(2147483648)
	draw := rand.New(rand.NewSource(2))
	for range 60 {
		around(int64(draw.Uint64()) >> draw.Intn(64))
	}
	return l
}

// narrow is the promise's word on a result: itself, if it is of 64 bits.
func narrow(n *big.Int) (int64, api.Errno) {
	if n.Cmp(big.NewInt(least)) < 0 || n.Cmp(big.NewInt(greatest)) > 0 {
		return 0, api.ErrOver
	}
	return n.Int64(), api.OK
}

// reckoning is one of two numbers, and what it is of numbers without bounds.
type reckoning struct {
	name  string
	is    func(a, b int64) (int64, api.Errno)
	plain func(out, a, b *big.Int) *big.Int
}

func reckonings() []reckoning {
	return []reckoning{
		{"Add", num.Add, (*big.Int).Add},
		{"Sub", num.Sub, (*big.Int).Sub},
		{"Mul", num.Mul, (*big.Int).Mul},
	}
}

func TestP201AddSubMulOfMany(t *testing.T) {
	all := numbers()
	for _, r := range reckonings() {
		var good, over int
		for _, a := range all {
			for _, b := range all {
				want, wantErr := narrow(r.plain(new(big.Int), big.NewInt(a), big.NewInt(b)))
				n, err := r.is(a, b)
				if n != want || err != wantErr {
					t.Fatalf("%s(%d, %d): %d, %v; want %d, %v", r.name, a, b, n, err, want, wantErr)
				}
				if err == api.OK {
					good++
				} else {
					over++
				}
			}
		}
		if good < 1000 || over < 1000 {
			t.Errorf("%s: %d results and %d errors are too few to tell", r.name, good, over)
		}
	}
}

func TestP201AddSubMulOfSmall(t *testing.T) {
	for _, r := range reckonings() {
		for a := int64(-40); a <= 40; a++ {
			for b := int64(-40); b <= 40; b++ {
				want := r.plain(new(big.Int), big.NewInt(a), big.NewInt(b)).Int64()
				if n, err := r.is(a, b); n != want || err != api.OK {
					t.Fatalf("%s(%d, %d): %d, %v; want %d", r.name, a, b, n, err, want)
				}
			}
		}
	}
}

// bound is a reckoning at one, with its result written out.
type bound struct {
	a, b, want int64
	err        api.Errno
}

func checkBounds(t *testing.T, name string, is func(a, b int64) (int64, api.Errno), l []bound) {
	t.Helper()
	for _, c := range l {
		if n, err := is(c.a, c.b); n != c.want || err != c.err {
			t.Errorf("%s(%d, %d): %d, %v; want %d, %v", name, c.a, c.b, n, err, c.want, c.err)
		}
	}
}

func TestP201AddAtBounds(t *testing.T) {
	checkBounds(t, "Add", num.Add, []bound{
		{greatest, 0, greatest, api.OK},
		{0, least, least, api.OK},
		{greatest, 1, 0, api.ErrOver},
		{1, greatest, 0, api.ErrOver},
		{greatest - 1, 1, greatest, api.OK},
		{greatest - 1, 2, 0, api.ErrOver},
		{greatest, -1, greatest - 1, api.OK},
		{least, -1, 0, api.ErrOver},
		{-1, least, 0, api.ErrOver},
		{least + 1, -1, least, api.OK},
		{least + 1, -2, 0, api.ErrOver},
		{least, 1, least + 1, api.OK},
		{least, greatest, -1, api.OK},
		{greatest, greatest, 0, api.ErrOver},
		{least, least, 0, api.ErrOver},
		{1 << 62, 1 << 62, 0, api.ErrOver},
		{1 << 62, 1<<62 - 1, greatest, api.OK},
		{-1 << 62, -1 << 62, least, api.OK},
	})
}

func TestP201SubAtBounds(t *testing.T) {
	checkBounds(t, "Sub", num.Sub, []bound{
		{greatest, 0, greatest, api.OK},
		{least, 0, least, api.OK},
		{greatest, -1, 0, api.ErrOver},
		{greatest - 1, -1, greatest, api.OK},
		{greatest - 1, -2, 0, api.ErrOver},
		{least, 1, 0, api.ErrOver},
		{least + 1, 1, least, api.OK},
		{least + 1, 2, 0, api.ErrOver},
		{0, least, 0, api.ErrOver},
		{0, least + 1, greatest, api.OK},
		{0, greatest, least + 1, api.OK},
		{-1, least, greatest, api.OK},
		{-1, greatest, least, api.OK},
		{-2, greatest, 0, api.ErrOver},
		{1, least, 0, api.ErrOver},
		{least, least, 0, api.OK},
		{greatest, greatest, 0, api.OK},
		{greatest, least, 0, api.ErrOver},
		{least, greatest, 0, api.ErrOver},
	})
}

func TestP201MulAtBounds(t *testing.T) {
	checkBounds(t, "Mul", num.Mul, []bound{
		{0, least, 0, api.OK},
		{least, 0, 0, api.OK},
		{0, greatest, 0, api.OK},
		{1, least, least, api.OK},
		{least, 1, least, api.OK},
		{-1, least, 0, api.ErrOver},
		{least, -1, 0, api.ErrOver},
		{-1, least + 1, greatest, api.OK},
		{-1, greatest, least + 1, api.OK},
		{greatest, -1, least + 1, api.OK},
		{greatest, 2, 0, api.ErrOver},
		{greatest, greatest, 0, api.ErrOver},
		{greatest - 1, greatest, 0, api.ErrOver},
		{least, least, 0, api.ErrOver},
		{least, greatest, 0, api.ErrOver},
		{1 << 62, 2, 0, api.ErrOver},
		{1 << 62, -2, least, api.OK},
		{-1 << 62, 2, least, api.OK},
		{-1 << 62, -2, 0, api.ErrOver},
		{1 << 32, 1 << 32, 0, api.ErrOver},
		{3037000499, 3037000499, 9223372030926249001, api.OK},
		{3037000500, 3037000500, 0, api.ErrOver},
		{7, 1317624576693539401, greatest, api.OK},
		{7, 1317624576693539402, 0, api.ErrOver},
	})
}

func TestP201Neg(t *testing.T) {
	for _, a := range numbers() {
		want, wantErr := narrow(new(big.Int).Neg(big.NewInt(a)))
		if n, err := num.Neg(a); n != want || err != wantErr {
			t.Errorf("Neg(%d): %d, %v; want %d, %v", a, n, err, want, wantErr)
		}
	}
	for _, c := range []bound{
		{a: least, err: api.ErrOver},
		{a: least + 1, want: greatest},
		{a: least + 2, want: greatest - 1},
		{a: greatest, want: least + 1},
		{a: greatest - 1, want: least + 2},
		{a: 0, want: 0},
		{a: 5, want: -5},
	} {
		if n, err := num.Neg(c.a); n != c.want || err != c.err {
			t.Errorf("Neg(%d): %d, %v; want %d, %v", c.a, n, err, c.want, c.err)
		}
	}
}

func TestP202AddedIsTakenAway(t *testing.T) {
	all, added := numbers(), 0
	for _, a := range all {
		for _, b := range all {
			sum, err := num.Add(a, b)
			if err != api.OK {
				continue
			}
			added++
			if n, err := num.Sub(sum, b); n != a || err != api.OK {
				t.Fatalf("%d + %d - %d: %d, %v", a, b, b, n, err)
			}
			if n, err := num.Sub(sum, a); n != b || err != api.OK {
				t.Fatalf("%d + %d - %d: %d, %v", a, b, a, n, err)
			}
		}
	}
	if added < 1000 {
		t.Errorf("only %d sums", added)
	}
}

func TestP202TakenAwayIsAdded(t *testing.T) {
	all, taken := numbers(), 0
	for _, a := range all {
		for _, b := range all {
			rest, err := num.Sub(a, b)
			if err != api.OK {
				continue
			}
			taken++
			if n, err := num.Add(rest, b); n != a || err != api.OK {
				t.Fatalf("%d - %d + %d: %d, %v", a, b, b, n, err)
			}
		}
	}
	if taken < 1000 {
		t.Errorf("only %d rests", taken)
	}
}
