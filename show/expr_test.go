package show_test

import (
	"math"
	"slices"
	"strings"
	"testing"

	"chancel/api"
	"chancel/lex"
	"chancel/parse"
	"chancel/show"
	"chancel/text"
)

func TestExample1(t *testing.T) {
	exprs.check(t, node(api.OSub, long(1), node(api.OSub, long(2), long(3))), "1 - (2 - 3)")
	exprs.check(t, node(api.OSub, node(api.OSub, long(1), long(2)), long(3)), "1 - 2 - 3")
}

func TestP601TheTextOfEachOperation(t *testing.T) {
	for op, want := range map[int]string{
		api.OBool: "false", api.OLong: "1", api.OStr: `"a"`, api.OUid: `A::"b"`, api.OVar: "action", api.OSet: "[1, 2]",
		api.OGet: "1.a", api.OHas: "1 has a", api.OHolds: "1.contains(2)", api.OLike: `1 like "a"`, api.ONot: "!1", api.ONeg: "-1",
		api.OMul: "1 * 2", api.OAdd: "1 + 2", api.OSub: "1 - 2",
		api.OLess: "1 < 2", api.OLeast: "1 <= 2", api.OMore: "1 > 2", api.OMost: "1 >= 2", api.OSame: "1 == 2", api.OOther: "1 != 2", api.OIn: "1 in 2",
		api.OAnd: "1 && 2", api.OOr: "1 || 2", api.OIf: "if 1 then 2 else 3",
	} {
		exprs.check(t, sample(op, 1), want)
	}
	exprs.check(t, truth(true), "true")
	exprs.check(t, variable("principal"), "principal")
	exprs.check(t, variable("resource"), "resource")
}

func TestP601Numbers(t *testing.T) {
	exprs.check(t, long(0), "0")
	exprs.check(t, long(10), "10")
	exprs.check(t, long(math.MaxInt64), "9223372036854775807")
	exprs.check(t, node(api.ONeg, long(math.MaxInt64)), "-9223372036854775807")
	exprs.check(t, node(api.ONeg, long(0)), "-0")
}

// Of signs that lean to the left the right kid of the same level stands in brackets, the left one without.
func TestP601SignsThatLeanToTheLeft(t *testing.T) {
	for sign, op := range map[string]int{"*": api.OMul, "+": api.OAdd, "-": api.OSub, "&&": api.OAnd, "||": api.OOr} {
		exprs.check(t, node(op, node(op, node(op, long(1), long(2)), long(3)), long(4)), "1 "+sign+" 2 "+sign+" 3 "+sign+" 4")
		exprs.check(t, node(op, long(1), node(op, long(2), node(op, long(3), long(4)))), "1 "+sign+" (2 "+sign+" (3 "+sign+" 4))")
		exprs.check(t, node(op, node(op, long(1), long(2)), node(op, long(3), long(4))), "1 "+sign+" 2 "+sign+" (3 "+sign+" 4)")
	}
	exprs.check(t, node(api.OSub, node(api.OAdd, long(1), long(2)), long(3)), "1 + 2 - 3")
	exprs.check(t, node(api.OAdd, long(1), node(api.OSub, long(2), long(3))), "1 + (2 - 3)")
	exprs.check(t, node(api.OSub, long(1), node(api.OAdd, long(2), long(3))), "1 - (2 + 3)")
	exprs.check(t, node(api.OAdd, node(api.OMul, long(1), long(2)), node(api.OMul, long(3), long(4))), "1 * 2 + 3 * 4")
	exprs.check(t, node(api.OMul, node(api.OAdd, long(1), long(2)), node(api.OAdd, long(3), long(4))), "(1 + 2) * (3 + 4)")
	exprs.check(t, node(api.OOr, node(api.OAnd, long(1), long(2)), node(api.OAnd, long(3), long(4))), "1 && 2 || 3 && 4")
	exprs.check(t, node(api.OAnd, node(api.OOr, long(1), long(2)), node(api.OOr, long(3), long(4))), "(1 || 2) && (3 || 4)")
}

func TestP601ComparisonsWithinComparisons(t *testing.T) {
	tails := map[string]func(api.Expr) api.Expr{
		" has a":   func(e api.Expr) api.Expr { return named(api.OHas, "a", e) },
		` like ""`: func(e api.Expr) api.Expr { return named(api.OLike, "", e) },
	}
	signs := map[string]int{"<": api.OLess, "<=": api.OLeast, ">": api.OMore, ">=": api.OMost, "==": api.OSame, "!=": api.OOther, "in": api.OIn}
	for sign, op := range signs {
		tails[" "+sign+" 9"] = func(e api.Expr) api.Expr { return node(op, e, long(9)) }
	}
	for a, first := range tails {
		for b, second := range tails {
			exprs.check(t, second(first(long(1))), "(1"+a+")"+b)
		}
		for sign, op := range signs {
			exprs.check(t, node(op, long(1), first(long(2))), "1 "+sign+" (2"+a+")")
			exprs.check(t, node(op, first(long(1)), first(long(2))), "(1"+a+") "+sign+" (2"+a+")")
			exprs.check(t, node(op, node(api.OAdd, long(1), long(2)), node(api.OSub, long(3), long(4))), "1 + 2 "+sign+" 3 - 4")
			exprs.check(t, node(op, node(api.OAnd, long(1), long(2)), node(api.OOr, long(3), long(4))), "(1 && 2) "+sign+" (3 || 4)")
		}
		exprs.check(t, node(api.OAnd, first(long(1)), first(long(2))), "1"+a+" && 2"+a)
		exprs.check(t, node(api.ONot, first(long(1))), "!(1"+a+")")
		exprs.check(t, get(first(long(1)), "b"), "(1"+a+").b")
	}
}

func TestP601SignsAhead(t *testing.T) {
	signs := map[string]int{"!": api.ONot, "-": api.ONeg}
	for a, one := range signs {
		for b, two := range signs {
			exprs.check(t, node(one, node(two, node(one, long(1)))), a+b+a+"1")
		}
		exprs.check(t, node(one, get(get(variable("principal"), "a"), "b")), a+"principal.a.b")
		exprs.check(t, node(one, node(api.OHolds, node(api.OSet, long(1)), long(2))), a+"[1].contains(2)")
		exprs.check(t, get(node(one, variable("principal")), "a"), "("+a+"principal).a")
		exprs.check(t, node(api.OHolds, node(one, long(1)), node(one, long(2))), "("+a+"1).contains("+a+"2)")
		exprs.check(t, node(one, node(api.OIf, long(1), long(2), long(3))), a+"(if 1 then 2 else 3)")
		for sign, op := range map[string]int{"*": api.OMul, "+": api.OAdd, "-": api.OSub, "<": api.OLess, "in": api.OIn, "&&": api.OAnd, "||": api.OOr} {
			exprs.check(t, node(one, node(op, long(1), long(2))), a+"(1 "+sign+" 2)")
			exprs.check(t, node(op, node(one, long(1)), node(one, long(2))), a+"1 "+sign+" "+a+"2")
		}
	}
	// As deep as may be.
	e := truth(true)
	for range api.MaxDepth - 1 {
		e = node(api.ONot, e)
	}
	exprs.check(t, e, "!!!!!!!!!true")
}

func TestP601Dots(t *testing.T) {
	p := variable("principal")
	exprs.check(t, get(get(get(p, "a"), "b"), "c"), "principal.a.b.c")
	exprs.check(t, get(long(5), "a"), "5.a")
	exprs.check(t, get(truth(true), "true"), "true.true")
	exprs.check(t, get(str("b"), "a"), `"b".a`)
	exprs.check(t, get(uid("A", "b"), "c"), `A::"b".c`)
	exprs.check(t, get(node(api.OSet), "a"), "[].a")
	exprs.check(t, get(node(api.OSet, long(1)), "a"), "[1].a")
	exprs.check(t, get(node(api.OHolds, p, long(1)), "a"), "principal.contains(1).a")
	exprs.check(t, get(p, "contains"), "principal.contains")
	exprs.check(t, node(api.OHolds, get(p, "contains"), long(1)), "principal.contains.contains(1)")
	exprs.check(t, node(api.OHolds, node(api.OHolds, p, long(1)), node(api.OHolds, p, long(2))), "principal.contains(1).contains(principal.contains(2))")
	exprs.check(t, node(api.OHolds, p, node(api.OOr, long(1), long(2))), "principal.contains(1 || 2)")
	for _, in := range []api.Expr{sample(api.OIf, 1), sample(api.OOr, 1), sample(api.OAnd, 1), sample(api.OIn, 1), sample(api.OHas, 1), sample(api.OLike, 1), sample(api.OSub, 1), sample(api.OMul, 1), sample(api.ONot, 1), sample(api.ONeg, 1)} {
		exprs.check(t, get(in, "b"), "("+show.Expr(in)+").b")
		exprs.check(t, get(get(in, "b"), "c"), "("+show.Expr(in)+").b.c")
		exprs.check(t, node(api.OHolds, in, in), "("+show.Expr(in)+").contains("+show.Expr(in)+")")
	}
}

func TestP601If(t *testing.T) {
	three := node(api.OIf, long(1), long(2), long(3))
	const s = "if 1 then 2 else 3"
	exprs.check(t, node(api.OIf, three, three, three), "if "+s+" then "+s+" else "+s)
	exprs.check(t, node(api.OIf, node(api.OOr, long(1), long(2)), node(api.OAnd, long(3), long(4)), node(api.OOr, long(5), long(6))), "if 1 || 2 then 3 && 4 else 5 || 6")
	exprs.check(t, node(api.OSet, three, three), "["+s+", "+s+"]")
	exprs.check(t, node(api.OHolds, three, three), "("+s+").contains("+s+")")
	exprs.check(t, node(api.OOr, three, three), "("+s+") || ("+s+")")
	exprs.check(t, named(api.OHas, "a", three), "("+s+") has a")
	exprs.check(t, named(api.OLike, "a", three), "("+s+`) like "a"`)
	exprs.check(t, node(api.OIf, uid("if", "then"), uid("then", "else"), uid("else", "if")), `if if::"then" then then::"else" else else::"if"`)
}

func TestP601Sets(t *testing.T) {
	exprs.check(t, node(api.OSet), "[]")
	exprs.check(t, api.Expr{Op: api.OSet, Kids: []api.Expr{}}, "[]")
	exprs.check(t, node(api.OSet, long(1)), "[1]")
	exprs.check(t, node(api.OSet, long(2), long(1), long(2)), "[2, 1, 2]")
	exprs.check(t, node(api.OSet, slices.Repeat([]api.Expr{long(1)}, 8)...), "[1, 1, 1, 1, 1, 1, 1, 1]")
	exprs.check(t, node(api.OSet, node(api.OSet), node(api.OSet, node(api.OSet, str(",")))), `[[], [[","]]]`)
	exprs.check(t, node(api.OSet, node(api.OOr, long(1), long(2)), node(api.OSub, long(3), node(api.OSub, long(4), long(5)))), "[1 || 2, 3 - (4 - 5)]")
}

func TestP601QuotedTexts(t *testing.T) {
	for s, want := range map[string]string{"": `""`, "a b": `"a b"`, `"`: `"\""`, `\`: `"\\"`, "\n\t": `"\n\t"`, "\x00\x07\x1f\x7f": `"\u{0}\u{7}\u{1f}\u{7f}"`, "\r": `"\u{d}"`, "é€😀\u0080": "\"é€😀\u0080\"", `\u{7}`: `"\\u{7}"`, "//": `"//"`, "(": `"("`, strings.Repeat("*", 30): `"` + strings.Repeat("*", 30) + `"`, strings.Repeat("\x1f", 30): `"` + strings.Repeat(`\u{1f}`, 30) + `"`} {
		exprs.check(t, str(s), want)
		exprs.check(t, named(api.OLike, s, str(s)), want+" like "+want)
		exprs.check(t, uid("A", s), "A::"+want)
		uids.check(t, id("A", s), "A::"+want)
	}
	for r := rune(0); r < 0x300; r++ {
		s := "a" + string(r) + "b"
		uids.check(t, id("Abc_9", s), "Abc_9::"+text.Quote(s))
		exprs.check(t, named(api.OLike, s, long(1)), "1 like "+text.Quote(s))
	}
}

// Words of the language may be names.
func TestP601Words(t *testing.T) {
	for _, w := range append([]string{"_", "a9", "abcdefghijkl"}, words...) {
		uids.check(t, id(w, ""), w+`::""`)
		exprs.check(t, node(api.ONot, get(uid(w, w), w)), "!"+w+`::"`+w+`".`+w)
		exprs.check(t, named(api.OHas, w, uid(w, "")), w+`::"" has `+w)
		exprs.check(t, node(api.OIn, uid(w, ""), get(variable("action"), w)), w+`::"" in action.`+w)
	}
}

// A tree whose text is beyond the bounds of lex is written all the same.
func TestP603BeyondTheBoundsOfLex(t *testing.T) {
	set := func(e api.Expr) api.Expr { return node(api.OSet, slices.Repeat([]api.Expr{e}, 8)...) }
	many := set(set(set(long(1))))
	if err := parse.Check(many); err != api.OK {
		t.Fatal(err)
	}
	three := "[" + strings.Repeat("1, ", 7) + "1]"
	three = "[" + strings.Repeat(three+", ", 7) + three + "]"
	three = "[" + strings.Repeat(three+", ", 7) + three + "]"
	exprs.written(t, many, three)
	if _, err := lex.Tokens(three); err != api.ErrLong {
		t.Errorf("%v", err)
	}
	exprs.written(t, set(str(strings.Repeat("\x1f", 30))), "["+strings.Repeat(`"`+strings.Repeat(`\u{1f}`, 30)+`", `, 7)+`"`+strings.Repeat(`\u{1f}`, 30)+`"]`)
}
