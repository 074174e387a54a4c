package eval_test

import (
	"math"
	"math/big"
	"testing"

	"chancel/api"
)

// numbers are such as stand at and around the bounds of 64 bits, and those whose sums and products do.
func numbers() []int64 {
	l := []int64{0, 2, 3, 7, 10, 1 << 31, 1<<31 - 1, 1 << 32, 3037000499, 3037000500, 1 << 62, 1<<62 - 1, math.MaxInt64 / 2, math.MaxInt64 / 3, math.MaxInt64 - 1}
	for _, n := range l[1:] {
		l = append(l, -n)
	}
	return append(l, 1, -1, math.MaxInt64, math.MinInt64, math.MinInt64+1, math.MinInt64/2-1)
}

// pair has two numbers as attributes: no text of the language has one below 0, or the least one.
func pair(a, b int64) []api.Entity {
	return []api.Entity{{U: uid("A", "a"), Attrs: []api.Attr{{Name: "a", V: long(a)}, {Name: "b", V: long(b)}}}}
}

// checkSum holds an operation of pairs against numbers without bounds.
func checkSum(t *testing.T, op int, sum func(z, a, b *big.Int) *big.Int) {
	t.Helper()
	over := 0
	e := node(op, tree(t, `principal.a`), tree(t, `principal.b`))
	for _, a := range numbers() {
		for _, b := range numbers() {
			want := sum(new(big.Int), big.NewInt(a), big.NewInt(b))
			if want.IsInt64() {
				checkValue(t, pair(a, b), e, long(want.Int64()))
			} else {
				over++
				checkErr(t, pair(a, b), e, api.ErrOver)
			}
		}
	}
	if over < 100 {
		t.Errorf("%d: %d are over", op, over)
	}
}

func TestP1301Sums(t *testing.T) {
	checkSum(t, api.OAdd, (*big.Int).Add)
	checkSum(t, api.OSub, (*big.Int).Sub)
	checkSum(t, api.OMul, (*big.Int).Mul)
}

func TestP1301Signs(t *testing.T) {
	for _, n := range numbers() {
		if n == math.MinInt64 {
			checkErr(t, pair(n, 0), tree(t, `-principal.a`), api.ErrOver)
		} else {
			checkValue(t, pair(n, 0), tree(t, `-principal.a`), long(-n))
			checkValue(t, pair(n, 0), tree(t, `--principal.a`), long(n))
		}
	}
}

func TestP1301Comparisons(t *testing.T) {
	for op, tells := range map[int]func(sign int) bool{
		api.OLess:  func(sign int) bool { return sign < 0 },
		api.OLeast: func(sign int) bool { return sign <= 0 },
		api.OMore:  func(sign int) bool { return sign > 0 },
		api.OMost:  func(sign int) bool { return sign >= 0 },
		api.OSame:  func(sign int) bool { return sign == 0 },
		api.OOther: func(sign int) bool { return sign != 0 },
	} {
		e := node(op, tree(t, `principal.a`), tree(t, `principal.b`))
		for _, a := range numbers() {
			for _, b := range numbers() {
				checkValue(t, pair(a, b), e, truth(tells(big.NewInt(a).Cmp(big.NewInt(b)))))
			}
		}
	}
}

// One beyond each bound, written out.
func TestP1301Bounds(t *testing.T) {
	checkTexts(t, map[string]string{
		`9223372036854775806 + 1`: `9223372036854775807`, `principal.l + 0`: `9223372036854775807`, `-principal.l - 1`: `-9223372036854775808`, `A::"b".l + (-1)`: `-9223372036854775808`, `4611686018427387904 * (-2)`: `-9223372036854775808`, `0 - principal.l`: `-9223372036854775807`,
		`3037000499 * 3037000499`: `9223372030926249001`, `1 + 2 * 3`: `7`, `(1 + 2) * 3`: `9`, `1 - 2 - 3`: `-4`, `1 - (2 - 3)`: `2`, `-2 * 3`: `-6`, `principal.l - principal.l`: `0`, `-(A::"b".l)`: `9223372036854775807`,
	})
	checkErrs(t, api.ErrOver,
		`principal.l + 1`, `1 + principal.l`, `-principal.l - 2`, `A::"b".l - 2`, `A::"b".l + A::"b".l`, `4611686018427387904 * 2`, `(-4611686018427387904) * 2 - 1`, `-(A::"b".l - 1)`, `0 - (A::"b".l - 1)`, `(A::"b".l - 1) * (-1)`, `(-1) * (A::"b".l - 1)`, `3037000500 * 3037000500`,
		// That it would come back within bounds is no help.
		`principal.l + 1 - 1`, `principal.l * 2 - principal.l`, `principal.l + 1 < 0`, `[principal.l + 1]`,
	)
}

// Each operation of numbers with each kind of value at both places.
func TestP1301NumbersOfEachKind(t *testing.T) {
	for op := api.OMul; op <= api.OMost; op++ {
		eachTwo(t, func(v, w api.Value, a, b api.Expr) {
			if v.Kind != api.VLong || w.Kind != api.VLong {
				checkErr(t, usual(t), node(op, a, b), api.ErrType)
			}
		})
	}
	each(t, func(v api.Value, e api.Expr) {
		switch {
		case v.Kind != api.VLong:
			checkErr(t, usual(t), node(api.ONeg, e), api.ErrType)
		case v.N == math.MinInt64:
			checkErr(t, usual(t), node(api.ONeg, e), api.ErrOver)
		default:
			checkValue(t, usual(t), node(api.ONeg, e), long(-v.N))
		}
	})
	checkErrs(t, api.ErrType, `"a" < "b"`, `false < true`, `principal < resource`, `[1] < [2]`, `"a" + "b"`, `[1] + [2]`, `[1] - [1]`, `-"1"`, `-[1]`, `1 + [1]`, `2 * "a"`)
}

func TestP1301SameOfEachKind(t *testing.T) {
	eachTwo(t, func(v, w api.Value, a, b api.Expr) {
		checkValue(t, usual(t), node(api.OSame, a, b), truth(alike(v, w)))
		checkValue(t, usual(t), node(api.OOther, a, b), truth(!alike(v, w)))
	})
	for _, x := range samples() {
		for _, text := range x.texts {
			checkTrue(t, `(`+x.texts[0]+`) == (`+text+`)`)
			checkFalse(t, `(`+text+`) != (`+x.texts[0]+`)`)
		}
	}
	checkTrue(t, `1 != true`, `1 != "1"`, `principal != "A::a"`, `A::"a" != B::"a"`, `A::"a" != A::"b"`, `[] == []`, `[] != [1]`, `[1] != 1`, `[1, 2] == [2, 1, 2]`, `[1] != [1, 2]`, `["1"] != [1]`, `A::"no" == A::"no"`, `A::"b".w == []`)
	checkFalse(t, `true == "true"`, `"" == []`, `0 == false`, `[] != A::"b".w`, `"é" == "e"`)
}
