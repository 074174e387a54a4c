package parse_test

import (
	"strconv"
	"strings"
	"testing"

	"chancel/api"
	"chancel/parse"
)

// Signs and words between two sums.
var compared = map[string]int{"==": api.OSame, "!=": api.OOther, "<": api.OLess, "<=": api.OLeast, ">": api.OMore, ">=": api.OMost, "in": api.OIn}

// Words that the rules name.
var words = strings.Fields("permit forbid principal action resource when unless in has like if then else true false contains entity Set Bool Long String")

func TestExample1(t *testing.T) {
	checkExpr(t, `1 - 2 - 3`, node(api.OSub, node(api.OSub, long(1), long(2)), long(3)))
}

func TestP501Prims(t *testing.T) {
	checkExpr(t, `true`, truth(true))
	checkExpr(t, `false`, truth(false))
	checkExpr(t, `principal`, variable("principal"))
	checkExpr(t, `action`, variable("action"))
	checkExpr(t, `resource`, variable("resource"))
	checkExpr(t, `0`, long(0))
	checkExpr(t, `9223372036854775807`, long(1<<63-1))
	checkExpr(t, `""`, str(""))
	checkExpr(t, `"a\n\u{e9}"`, str("a\né"))
	checkExpr(t, `"true"`, str("true"))
	checkExpr(t, `"::"`, str("::"))
	checkExpr(t, `A::"b"`, uid("A", "b"))
	checkExpr(t, ` A :: "" // c`, uid("A", ""))
	checkExpr(t, `_9::"::"`, uid("_9", "::"))
	checkExpr(t, `(1)`, long(1))
	checkExpr(t, `[]`, node(api.OSet))
	checkExpr(t, `[1]`, node(api.OSet, long(1)))
	checkExpr(t, `[2, "a", [], 2]`, node(api.OSet, long(2), str("a"), node(api.OSet), long(2)))
	checkExpr(t, `[1 + 2, if true then 1 else 2, (3)]`, node(api.OSet, node(api.OAdd, long(1), long(2)), node(api.OIf, truth(true), long(1), long(2)), long(3)))
}

func TestP501OperationsOfTwo(t *testing.T) {
	one, two := get(variable("principal"), "a"), uid("B", "c")
	const left, right = `principal.a`, `B::"c"`
	for sign, op := range map[string]int{"||": api.OOr, "&&": api.OAnd, "+": api.OAdd, "-": api.OSub, "*": api.OMul} {
		checkExpr(t, left+" "+sign+" "+right, node(op, one, two))
		checkExpr(t, left+sign+right+sign+"3"+sign+"4", node(op, node(op, node(op, one, two), long(3)), long(4)))
		checkExpr(t, left+sign+"("+right+sign+"3)", node(op, one, node(op, two, long(3))))
		checkErrors(t, parse.Expr, api.ErrForm, sign, left+sign, left+" "+sign+" )", "("+left+sign+")", `1 "`+sign+`" 2`)
	}
	for sign, op := range compared {
		checkExpr(t, left+" "+sign+" "+right, node(op, one, two))
		checkErrors(t, parse.Expr, api.ErrForm, sign, "1 "+sign, sign+" 1", "1 "+sign+" "+sign+" 2", `1 "`+sign+`" 2`)
	}
	checkExpr(t, `1 + 2 - 3 + 4`, node(api.OAdd, node(api.OSub, node(api.OAdd, long(1), long(2)), long(3)), long(4)))
	checkErrors(t, parse.Expr, api.ErrForm, "1 + + 2", "1 * * 2", "1 || || 2", "1 && && 2", "1 -> 2", "1 :: 2", "1 : 2", "1, 2", "1; 2", "1 ! 2", "1 2", "1 true", "1 principal", `1 "a"`)
	checkError(t, parse.Expr, "1 / 2", api.ErrToken)
	checkError(t, parse.Expr, "1 & 2", api.ErrToken)
	checkError(t, parse.Expr, "1 = 2", api.ErrToken)
}

// levels are signs, those that bind first behind.
func levels() [][]string {
	return [][]string{{"||"}, {"&&"}, {"==", "!=", "<", "<=", ">", ">=", "in"}, {"+", "-"}, {"*"}}
}

func opOf(sign string) int {
	if op := compared[sign]; op != 0 {
		return op
	}
	return map[string]int{"||": api.OOr, "&&": api.OAnd, "+": api.OAdd, "-": api.OSub, "*": api.OMul}[sign]
}

func TestP501WhichSignBindsFirst(t *testing.T) {
	for i, low := range levels() {
		for k, high := range levels() {
			for _, a := range low {
				for _, b := range high {
					s := "1 " + a + " 2 " + b + " 3"
					toLeft := node(opOf(b), node(opOf(a), long(1), long(2)), long(3))
					toRight := node(opOf(a), long(1), node(opOf(b), long(2), long(3)))
					switch {
					case i < k:
						checkExpr(t, s, toRight)
					case i == k && i == 2:
						checkError(t, parse.Expr, s, api.ErrForm)
					default:
						checkExpr(t, s, toLeft)
					}
					checkExpr(t, "(1 "+a+" 2) "+b+" 3", toLeft)
					checkExpr(t, "1 "+a+" (2 "+b+" 3)", toRight)
				}
			}
		}
	}
	checkExpr(t, `1 || 2 && 3 == 4 + 5 * 6 - 7 && 8 || 9`, node(api.OOr, node(api.OOr, long(1), node(api.OAnd, node(api.OAnd, long(2), node(api.OSame, long(3), node(api.OSub, node(api.OAdd, long(4), node(api.OMul, long(5), long(6))), long(7)))), long(8))), long(9)))
}

func TestP501SignsAhead(t *testing.T) {
	for sign, op := range map[string]int{"!": api.ONot, "-": api.ONeg} {
		checkExpr(t, sign+"1", node(op, long(1)))
		checkExpr(t, sign+" "+sign+sign+"1", node(op, node(op, node(op, long(1)))))
		checkExpr(t, sign+"principal.a.b", node(op, get(get(variable("principal"), "a"), "b")))
		checkExpr(t, "("+sign+"principal).a", get(node(op, variable("principal")), "a"))
		checkExpr(t, sign+"[1].contains(1)", node(op, node(api.OHolds, node(api.OSet, long(1)), long(1))))
		checkExpr(t, sign+"(if 1 then 2 else 3)", node(op, node(api.OIf, long(1), long(2), long(3))))
		for _, level := range levels() {
			for _, other := range level {
				if other != "-" || sign != "-" {
					checkExpr(t, sign+"1 "+other+" 2", node(opOf(other), node(op, long(1)), long(2)))
				}
				checkExpr(t, "1 "+other+" "+sign+"2", node(opOf(other), long(1), node(op, long(2))))
				checkExpr(t, sign+"(1 "+other+" 2)", node(op, node(opOf(other), long(1), long(2))))
			}
		}
		checkExpr(t, sign+"1 has a", named(api.OHas, "a", node(op, long(1))))
		checkExpr(t, sign+`1 like "a"`, named(api.OLike, "a", node(op, long(1))))
		checkErrors(t, parse.Expr, api.ErrForm, sign, sign+sign, "1"+sign, sign+")", "("+sign+")", sign+"if 1 then 2 else 3")
	}
	checkExpr(t, "-!-1", node(api.ONeg, node(api.ONot, node(api.ONeg, long(1)))))
	checkExpr(t, "1--1", node(api.OSub, long(1), node(api.ONeg, long(1))))
	checkExpr(t, "-9223372036854775807", node(api.ONeg, long(1<<63-1)))
	checkError(t, parse.Expr, "-9223372036854775808", api.ErrOver)
	checkErrors(t, parse.Expr, api.ErrForm, "+1", "*1", "1 + + 1", "1 * * 1", "!=1", "1 !! 2")
}

func TestP501ComparisonsThatFollowOneAnother(t *testing.T) {
	var tails, texts []string
	for sign := range compared {
		tails, texts = append(tails, sign+" 2"), append(texts, sign)
	}
	tails = append(tails, "has a", `like "a"`)
	for _, a := range tails {
		for _, b := range tails {
			checkErrors(t, parse.Expr, api.ErrForm, "1 "+a+" "+b, "1 "+a+" "+b+" && true", "true || 1 "+a+" "+b, "[1 "+a+" "+b+"]")
			if _, err := parse.Expr("(1 " + a + ") " + b); err != api.OK {
				t.Errorf("(1 %s) %s: %v", a, b, err)
			}
			if _, err := parse.Expr("1 " + a + " && 1 " + b); err != api.OK {
				t.Errorf("1 %s && 1 %s: %v", a, b, err)
			}
		}
	}
	for _, sign := range texts {
		checkExpr(t, "1 "+sign+" (2 has a)", node(compared[sign], long(1), named(api.OHas, "a", long(2))))
	}
}

func TestP501HasAndLike(t *testing.T) {
	checkExpr(t, `principal has a`, named(api.OHas, "a", variable("principal")))
	checkExpr(t, `1 + 2 has a || true`, node(api.OOr, named(api.OHas, "a", node(api.OAdd, long(1), long(2))), truth(true)))
	checkExpr(t, `"a" like "*"`, named(api.OLike, "*", str("a")))
	checkExpr(t, `1 * 2 like ""`, named(api.OLike, "", node(api.OMul, long(1), long(2))))
	checkExpr(t, `"has" like "like"`, named(api.OLike, "like", str("has")))
	checkErrors(t, parse.Expr, api.ErrForm, `principal has`, `principal has "a"`, `principal has 1`, `principal has (a)`, `principal has a.b`, `principal has a + 1`, `principal has a::"b"`, `has a`, `principal has [a]`,
		`"a" like`, `"a" like a`, `"a" like 1`, `"a" like ("b")`, `"a" like "b" + "c"`, `like "a"`, `"a" like "b".c`, `"a" like a::"b"`, `principal "has" a`, `"a" "like" "b"`)
}

func TestP501If(t *testing.T) {
	three := node(api.OIf, long(1), long(2), long(3))
	checkExpr(t, `if 1 then 2 else 3`, three)
	checkExpr(t, `(if(1)then(2)else(3))`, three)
	checkExpr(t, `if 1 then 2 else 3 || 4`, node(api.OIf, long(1), long(2), node(api.OOr, long(3), long(4))))
	checkExpr(t, `if 1 || 4 then 2 && 5 else 3`, node(api.OIf, node(api.OOr, long(1), long(4)), node(api.OAnd, long(2), long(5)), long(3)))
	checkExpr(t, `(if 1 then 2 else 3) || 4`, node(api.OOr, three, long(4)))
	checkExpr(t, `if if 1 then 2 else 3 then if 1 then 2 else 3 else if 1 then 2 else 3`, node(api.OIf, three, three, three))
	checkExpr(t, `[if 1 then 2 else 3].contains(if 1 then 2 else 3)`, node(api.OHolds, node(api.OSet, three), three))
	checkExpr(t, `if then::"a" then else::"b" else if::"c"`, node(api.OIf, uid("then", "a"), uid("else", "b"), uid("if", "c")))
	checkExpr(t, `if if::"a" then 2 else 3`, node(api.OIf, uid("if", "a"), long(2), long(3)))
	checkExpr(t, `if principal has then then 2 else 3`, node(api.OIf, named(api.OHas, "then", variable("principal")), long(2), long(3)))
	checkExpr(t, `if::"a"`, uid("if", "a"))
	checkExpr(t, `if::"a".if == if::"b"`, node(api.OSame, get(uid("if", "a"), "if"), uid("if", "b")))
	checkErrors(t, parse.Expr, api.ErrForm, `if`, `if 1`, `if 1 then`, `if 1 then 2`, `if 1 then 2 else`, `if then 2 else 3`, `if 1 then else 3`, `if 1 else 2 then 3`, `if 1 2 else 3`, `if 1 then 2 3`, `if 1 then 2 else 3 4`, `if 1 then 2 else 3 else 4`, `if (1 then 2 else 3)`, `IF 1 then 2 else 3`, `if::`, `if::a`, `if::1`,
		`1 || if 1 then 2 else 3`, `1 && if 1 then 2 else 3`, `1 == if 1 then 2 else 3`, `1 + if 1 then 2 else 3`, `1 * if 1 then 2 else 3`, `if 1 then 2 else`, `"if" 1 then 2 else 3`, `if 1 "then" 2 else 3`, `if 1 then 2 "else" 3`)
}

func TestP501Members(t *testing.T) {
	p := variable("principal")
	checkExpr(t, `principal.a`, get(p, "a"))
	checkExpr(t, `principal . a . b . c`, get(get(get(p, "a"), "b"), "c"))
	checkExpr(t, `5.a`, get(long(5), "a"))
	checkExpr(t, `"b".a`, get(str("b"), "a"))
	checkExpr(t, `true.false`, get(truth(true), "false"))
	checkExpr(t, `A::"b".c`, get(uid("A", "b"), "c"))
	checkExpr(t, `(1 + 2).a`, get(node(api.OAdd, long(1), long(2)), "a"))
	checkExpr(t, `[1].a`, get(node(api.OSet, long(1)), "a"))
	checkExpr(t, `[1].contains(2)`, node(api.OHolds, node(api.OSet, long(1)), long(2)))
	checkExpr(t, `principal.a.contains((2)).b.contains ( 3 + 4 ).contains`, get(node(api.OHolds, get(node(api.OHolds, get(p, "a"), long(2)), "b"), node(api.OAdd, long(3), long(4))), "contains"))
	checkExpr(t, `principal.contains`, get(p, "contains"))
	checkExpr(t, `principal.contains.contains(1)`, node(api.OHolds, get(p, "contains"), long(1)))
	checkExpr(t, `1 + 2.a`, node(api.OAdd, long(1), get(long(2), "a")))
	checkErrors(t, parse.Expr, api.ErrForm, `principal.`, `.a`, `principal..a`, `principal.1`, `principal."a"`, `principal.(a)`, `principal.[a]`, `principal.a::"b"`, `principal.::"b"`, `principal a`,
		`[1].contains(`, `[1].contains()`, `[1].contains(1`, `[1].contains(1,)`, `[1].contains(1, 2)`, `[1].contains 1`, `[1].contains[1]`, `[1].contains(1))`, `[1].contains((1)`, `[1]contains(1)`, `contains(1)`, `[1].contains(1)(2)`, `[1].contains(x)`, `1(2)`, `principal(1)`, `(1)(2)`)
}

func TestP501CallsOfOtherNames(t *testing.T) {
	for _, name := range append([]string{"a", "b1", "Contains", "contain", "containss", "containsAll", "_contains", "has"}, words...) {
		if name == "contains" {
			continue
		}
		checkExpr(t, "principal."+name, get(variable("principal"), name))
		for _, args := range []string{"(1)", "()", "(1, 2)", " (principal)", "(1).a", "(1).contains(2)", "("} {
			checkError(t, parse.Expr, "principal."+name+args, api.ErrForm)
		}
	}
}

func TestP501WordsOfTheLanguageAsNames(t *testing.T) {
	for _, w := range words {
		checkExpr(t, w+`::"a"`, uid(w, "a"))
		checkExpr(t, `[`+w+`::"a", `+w+` :: ""]`, node(api.OSet, uid(w, "a"), uid(w, "")))
		checkExpr(t, w+`::"a".`+w, get(uid(w, "a"), w))
		checkExpr(t, `principal has `+w, named(api.OHas, w, variable("principal")))
		checkExpr(t, `principal in `+w+`::"a"`, node(api.OIn, variable("principal"), uid(w, "a")))
		checkRead(t, parse.Uid, w+`::"a"`, api.Uid{Type: w, Id: "a"})
		switch w {
		case "true", "false", "principal", "action", "resource":
		default:
			checkErrors(t, parse.Expr, api.ErrForm, w, "("+w+")", "["+w+"]", "1 + "+w, w+".a")
		}
		checkErrors(t, parse.Expr, api.ErrForm, w+"::", w+"::a", w+`::"a"::"b"`, w+`:"a"`, w+`"a"`)
	}
	checkErrors(t, parse.Expr, api.ErrForm, "x", "True", "FALSE", "Principal", "_", "a1")
}

func TestP501BracketsThatChangeNothing(t *testing.T) {
	for n := range 90 {
		checkExpr(t, strings.Repeat("(", n)+"1"+strings.Repeat(")", n), long(1))
		if n > 0 {
			checkErrors(t, parse.Expr, api.ErrForm, strings.Repeat("(", n)+"1"+strings.Repeat(")", n-1), strings.Repeat("(", n-1)+"1"+strings.Repeat(")", n), strings.Repeat("(", n)+strings.Repeat(")", n))
		}
	}
	checkExpr(t, `((1) + (2)) * ((3))`, node(api.OMul, node(api.OAdd, long(1), long(2)), long(3)))
	checkExpr(t, `((principal).a).b`, get(get(variable("principal"), "a"), "b"))
	checkErrors(t, parse.Expr, api.ErrForm, `()`, `)`, `(`, `(1, 2)`, `(1]`, `[1)`, `{1}`, `(A)::"b"`, `(A::)"b"`, `principal.(a)`)
}

func TestP501SetsAsText(t *testing.T) {
	for n := range 12 {
		var kids []api.Expr
		var texts []string
		for i := range n {
			kids, texts = append(kids, long(int64(i))), append(texts, strconv.Itoa(i))
		}
		s := "[" + strings.Join(texts, ",") + "]"
		if n > 8 {
			checkError(t, parse.Expr, s, api.ErrMany)
			checkError(t, parse.Expr, "1 + -"+s+".a", api.ErrMany)
		} else {
			checkExpr(t, s, node(api.OSet, kids...))
		}
	}
	// Elements are counted as they stand, doubles too.
	checkExpr(t, "["+times("1", 8, ", ")+"]", node(api.OSet, long(1), long(1), long(1), long(1), long(1), long(1), long(1), long(1)))
	checkError(t, parse.Expr, "["+times("1", 9, ", ")+"]", api.ErrMany)
	checkErrors(t, parse.Expr, api.ErrForm, `[`, `]`, `[1`, `1]`, `[,]`, `[1,]`, `[,1]`, `[1,,2]`, `[1 2]`, `[1;2]`, `[x]`, `[[]`, `[]]`, `[][]`, `[1: 2]`)
}

func TestP501TokensLeftOver(t *testing.T) {
	for _, s := range []string{`1`, `true`, `principal`, `"a"`, `A::"b"`, `(1)`, `[1]`, `1 + 2`, `1 == 2`, `principal has a`, `"a" like "b"`, `[1].contains(1)`, `if 1 then 2 else 3`, `-1`} {
		for _, more := range []string{`1`, `"a"`, `x`, `principal`, `)`, `]`, `}`, `{`, `;`, `,`, `:`, `::`, `.`, `!`, `->`, `A::"b"`, `then`, `else`, `when`} {
			checkErrors(t, parse.Expr, api.ErrForm, s+" "+more, "("+s+") "+more)
		}
	}
	checkErrors(t, parse.Expr, api.ErrForm, ``, ` `, "\n", `// 1`)
}

func TestP501LexFirst(t *testing.T) {
	for s, want := range map[string]api.Errno{"@": api.ErrToken, "1 2 @": api.ErrToken, ") \xff": api.ErrRune, ") 01": api.ErrToken, ") abcdefghijklm": api.ErrLong, ") \"" + times("a", 31, "") + "\"": api.ErrLong, ") 9223372036854775808": api.ErrOver, times(")", 201, ""): api.ErrMany, times(" ", 601, ""): api.ErrLong, `) "\u{d800}"`: api.ErrRune, `) "a`: api.ErrToken} {
		checkError(t, parse.Expr, s, want)
		checkError(t, parse.Policy, s, want)
		checkError(t, parse.Schema, s, want)
		checkError(t, parse.Entity, s, want)
		checkError(t, parse.Uid, s, want)
	}
}

func TestP501FormAheadOfWhatWasRead(t *testing.T) {
	nine := "[" + times("1", 9, ",") + "]"
	deep := strings.Repeat("!", 10) + "true"
	for _, s := range []string{nine, deep, nine + " + " + deep} {
		checkErrors(t, parse.Expr, api.ErrForm, s+" 1", s+")", "("+s, "1 "+s, s+" +")
	}
	checkError(t, parse.Expr, nine+" + "+deep, api.ErrMany)
	checkError(t, parse.Expr, deep+" + "+nine, api.ErrMany)
	checkError(t, parse.Expr, "["+times(deep, 9, ",")+"]", api.ErrMany)
}

// ways down to the kid that goes on.
func waysDown() map[string][2]string {
	return map[string][2]string{
		"not":          {"!", ""},
		"neg":          {"-", ""},
		"get":          {"", ".a"},
		"has":          {"(", ") has a"},
		"like":         {"(", `) like "a"`},
		"set":          {"[", "]"},
		"set's last":   {"[1,2,", "]"},
		"holds, left":  {"", ".contains(1)"},
		"holds, right": {"1.contains(", ")"},
		"mul, left":    {"", "*1"},
		"mul, right":   {"1*(", ")"},
		"sub, left":    {"", "-1"},
		"sub, right":   {"1-(", ")"},
		"and, left":    {"", "&&1"},
		"and, right":   {"1&&(", ")"},
		"or, left":     {"", "||1"},
		"or, right":    {"1||(", ")"},
		"less, left":   {"(", ")<1"},
		"in, right":    {"1 in (", ")"},
		"if, test":     {"if ", " then 1 else 2"},
		"if, then":     {"if 1 then ", " else 2"},
		"if, else":     {"if 1 then 2 else ", ""},
	}
}

func TestP501Depths(t *testing.T) {
	for way, w := range waysDown() {
		s := "1"
		for depth := 1; depth <= 14; depth++ {
			e, err := parse.Expr(s)
			switch {
			case depth <= 10 && (err != api.OK || parse.Depth(e) != depth || parse.Check(e) != api.OK):
				t.Errorf("%s, %d deep: %v, %d", way, depth, err, parse.Depth(e))
			case depth > 10:
				checkError(t, parse.Expr, s, api.ErrDeep)
			}
			s = w[0] + s + w[1]
		}
	}
}
