package parse_test

import (
	"math/rand"
	"slices"
	"strconv"
	"strings"
	"testing"

	"chancel/api"
	"chancel/lex"
	"chancel/parse"
	"chancel/text"
)

// level tells how an operation binds: the greater first.
func level(op int) int {
	switch op {
	case api.OIf:
		return 0
	case api.OOr:
		return 1
	case api.OAnd:
		return 2
	case api.OLess, api.OLeast, api.OMore, api.OMost, api.OSame, api.OOther, api.OIn, api.OHas, api.OLike:
		return 3
	case api.OAdd, api.OSub:
		return 4
	case api.OMul:
		return 5
	case api.ONot, api.ONeg:
		return 6
	case api.OGet, api.OHolds:
		return 7
	}
	return 8
}

func signOf(op int) string {
	return map[int]string{api.OOr: "||", api.OAnd: "&&", api.OLess: "<", api.OLeast: "<=", api.OMore: ">", api.OMost: ">=", api.OSame: "==", api.OOther: "!=", api.OIn: "in", api.OAdd: "+", api.OSub: "-", api.OMul: "*"}[op]
}

// writer writes trees as text; spare tells whether brackets stand where they change nothing.
type writer struct {
	spare func() bool
}

func (w writer) kid(e api.Expr, asked int) string {
	s := w.write(e)
	if level(e.Op) < asked || w.spare() {
		return "(" + s + ")"
	}
	return s
}

func (w writer) write(e api.Expr) string {
	switch e.Op {
	case api.OBool:
		return strconv.FormatBool(e.B)
	case api.OLong:
		return strconv.FormatInt(e.N, 10)
	case api.OStr:
		return text.Quote(e.S)
	case api.OUid:
		return e.U.Type + "::" + text.Quote(e.U.Id)
	case api.OVar:
		return e.S
	case api.OSet:
		var l []string
		for _, k := range e.Kids {
			l = append(l, w.kid(k, 0))
		}
		return "[" + strings.Join(l, ",") + "]"
	case api.OGet:
		return w.kid(e.Kids[0], 7) + "." + e.S
	case api.OHas:
		return w.kid(e.Kids[0], 4) + " has " + e.S
	case api.OLike:
		return w.kid(e.Kids[0], 4) + " like " + text.Quote(e.S)
	case api.OHolds:
		return w.kid(e.Kids[0], 7) + ".contains(" + w.kid(e.Kids[1], 0) + ")"
	case api.ONot:
		return "!" + w.kid(e.Kids[0], 6)
	case api.ONeg:
		return "-" + w.kid(e.Kids[0], 6)
	case api.OIf:
		return "if " + w.kid(e.Kids[0], 0) + " then " + w.kid(e.Kids[1], 0) + " else " + w.kid(e.Kids[2], 0)
	}
	left, right := level(e.Op), level(e.Op)+1
	if left == 3 {
		left = 4
	}
	return w.kid(e.Kids[0], left) + " " + signOf(e.Op) + " " + w.kid(e.Kids[1], right)
}

// randomTree makes one that Check allows, at most so deep.
func randomTree(r *rand.Rand, depth int) api.Expr {
	texts := []string{"", "a", "é*\n", "in", strings.Repeat("x", 30)}
	names := append([]string{"a", "_b", "Abcdefghijkl"}, words...)
	op := api.OSet + r.Intn(api.OIf-api.OSet+1)
	if depth == 1 {
		op = api.OBool + r.Intn(api.OSet-api.OBool+1)
	}
	e := api.Expr{Op: op}
	switch op {
	case api.OBool:
		e.B = r.Intn(2) == 0
	case api.OLong:
		e.N = []int64{0, 1, 42, 1<<63 - 1}[r.Intn(4)]
	case api.OStr, api.OLike:
		e.S = texts[r.Intn(len(texts))]
	case api.OUid:
		e.U = id(names[r.Intn(len(names))], texts[r.Intn(len(texts))])
	case api.OVar:
		e.S = []string{"principal", "action", "resource"}[r.Intn(3)]
	case api.OGet, api.OHas:
		e.S = names[r.Intn(len(names))]
	}
	counts := kidsOf(op)
	count := counts[r.Intn(len(counts))]
	if depth == 1 {
		count = 0
	}
	// One kid goes on, the others are small: so a tree may be deep, and its text short.
	spine := r.Intn(max(count, 1))
	for i := range count {
		if i == spine {
			e.Kids = append(e.Kids, randomTree(r, depth-1))
		} else {
			e.Kids = append(e.Kids, randomTree(r, 1+r.Intn(min(depth-1, 3))))
		}
	}
	return e
}

// What is written of a tree is read as that tree, with as few brackets as may be and with spare ones; and what was read Check allows (P503).
func TestP501ReadsWhatIsWritten(t *testing.T) {
	r := rand.New(rand.NewSource(1))
	few, spare := writer{func() bool { return false }}, writer{func() bool { return r.Intn(3) == 0 }}
	seen := map[int]int{}
	for range 20000 {
		e := randomTree(r, 1+r.Intn(10))
		for _, s := range []string{few.write(e), spare.write(e)} {
			if _, err := lex.Tokens(s); err != api.OK {
				continue
			}
			got, err := parse.Expr(s)
			if err != api.OK || dump(got) != dump(e) {
				t.Fatalf("%s: %v, %s; want %s", s, err, dump(got), dump(e))
			}
			if err := parse.Check(got); err != api.OK {
				t.Fatalf("P503: %s: %v", s, err)
			}
			seen[parse.Depth(got)]++
			p, err := parse.Policy("permit(principal,action,resource)when{" + s + "};")
			if err == api.OK && dump(p) != dump(api.Policy{Conds: []api.Cond{when(e)}}) {
				t.Fatalf("%s: %s", s, dump(p))
			}
		}
	}
	for depth := 1; depth <= 10; depth++ {
		if seen[depth] < 20 {
			t.Errorf("%d deep: %d trees", depth, seen[depth])
		}
	}
}

// Blanks and remarks between the tokens change nothing (P402).
func TestP501BlanksChangeNothing(t *testing.T) {
	r := rand.New(rand.NewSource(2))
	gaps := []string{" ", "\n", "\t\r ", "//\n", " // a ) \"\n"}
	for _, l := range wholes() {
		for _, whole := range l {
			pieces := strings.Fields(whole)
			var loose strings.Builder
			for _, p := range pieces {
				loose.WriteString(gaps[r.Intn(len(gaps))] + p)
			}
			tight := strings.NewReplacer(" ( ", "(", " ) ", ")", " , ", ",", " :: ", "::", " . ", ".", " { ", "{", " } ", "}", " ;", ";").Replace(whole)
			for _, s := range []string{loose.String(), loose.String() + " //", tight} {
				a, errA := parse.Expr(s)
				b, errB := parse.Expr(whole)
				c, errC := parse.Policy(s)
				d, errD := parse.Policy(whole)
				if errA != errB || dump(a) != dump(b) || errC != errD || dump(c) != dump(d) {
					t.Errorf("%q: unlike %s", s, whole)
				}
				e, errE := parse.Schema(s)
				f, errF := parse.Schema(whole)
				g, errG := parse.Entity(s)
				h, errH := parse.Entity(whole)
				if errE != errF || dump(e) != dump(f) || errG != errH || dump(g) != dump(h) {
					t.Errorf("%q: unlike %s", s, whole)
				}
			}
		}
	}
}

// P1, P3: whatever is handed in, a call ends, and answers the same again.
func TestP1WhateverText(t *testing.T) {
	r := rand.New(rand.NewSource(4))
	l := pool()
	for range 20000 {
		var s strings.Builder
		for range r.Intn(30) {
			if r.Intn(40) == 0 {
				s.WriteByte(byte(r.Intn(256)))
			}
			s.WriteString(l[r.Intn(len(l))])
			if r.Intn(4) > 0 {
				s.WriteByte(' ')
			}
		}
		for rule, call := range callsOf() {
			if a, b := call(s.String()), call(s.String()); a != b {
				t.Fatalf("%s: %s: %v, %v", rule, s.String(), a, b)
			}
		}
	}
	for _, s := range []string{times("(", 200, ""), times("[", 200, ""), times("!", 200, ""), times("-", 200, ""), times("if ", 200, ""), times("1.", 100, ""), times("(1", 100, ""), times("if 1 then ", 66, ""), times(".contains(", 66, ""), times("{", 200, ""), times("entity ", 85, ""), times("\xff", 600, ""), times("a", 1<<20, "")} {
		for _, call := range callsOf() {
			if call(s) == api.OK {
				t.Errorf("%.20s: read", s)
			}
		}
	}
}

// P1: trees that no text makes, of any kind, as deep as may be.
func TestP1WhateverTree(t *testing.T) {
	r := rand.New(rand.NewSource(7))
	for range 3000 {
		e := oddTree(r, 1+r.Intn(7))
		err := parse.Check(e)
		if again := parse.Check(e); again != err {
			t.Fatalf("%v, %v: %s", err, again, dump(e))
		}
		if d := parse.Depth(e); d < 1 || d > 9 {
			t.Fatalf("Depth %d: %s", d, dump(e))
		}
		if err != naiveCheck(e) {
			t.Fatalf("%v, not %v: %s", err, naiveCheck(e), dump(e))
		}
	}
}

func oddTree(r *rand.Rand, depth int) api.Expr {
	e := fair(1 + r.Intn(25))
	if depth > 1 {
		for i := range e.Kids {
			e.Kids[i] = oddTree(r, depth-1)
		}
	}
	switch r.Intn(40) {
	case 0:
		e.Op = r.Intn(40) - 7
	case 1:
		e.B = true
	case 2:
		e.N = r.Int63() - 1<<62
	case 3:
		e.S = []string{"", "a", "1", "\xff", strings.Repeat("a", 31)}[r.Intn(5)]
	case 4:
		e.U = id([]string{"", "A", "1"}[r.Intn(3)], []string{"", "\xff", strings.Repeat("é", 31)}[r.Intn(3)])
	case 5:
		e.Kids = append(e.Kids, slices.Repeat([]api.Expr{{Op: 1}}, r.Intn(10))...)
	case 6:
		e.Kids = nil
	}
	return e
}

// naiveCheck tells P502 once more: all nodes in a row first, then what is wrong with each.
func naiveCheck(e api.Expr) api.Errno {
	var row []api.Expr
	var walk func(e api.Expr)
	walk = func(e api.Expr) {
		row = append(row, e)
		for _, k := range e.Kids {
			walk(k)
		}
	}
	walk(e)
	for _, e := range row {
		count, field := len(e.Kids), fieldOf(e.Op)
		isText := e.Op == api.OStr || e.Op == api.OLike
		switch {
		case e.Op < 1 || e.Op > 25:
			return api.ErrKind
		case e.Op != api.OSet && count != kidsOf(e.Op)[0]:
			return api.ErrForm
		case e.B && field != "B", e.N != 0 && field != "N", e.N < 0, e.S != "" && field != "S", e.U != (api.Uid{}) && field != "U":
			return api.ErrArg
		case e.Op == api.OUid && !lex.Ident(e.U.Type), e.Op == api.OVar && !slices.Contains([]string{"principal", "action", "resource"}, e.S), (e.Op == api.OGet || e.Op == api.OHas) && !lex.Ident(e.S):
			return api.ErrName
		case isText && text.Check(e.S) != api.OK, text.Check(e.U.Id) != api.OK:
			return api.ErrRune
		case isText && len([]rune(e.S)) > 30, len([]rune(e.U.Id)) > 30:
			return api.ErrLong
		case count > 8:
			return api.ErrMany
		}
	}
	return api.OK
}
