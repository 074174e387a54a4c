package show_test

import (
	"math/rand"
	"slices"
	"strings"
	"testing"

	"chancel/api"
	"chancel/lex"
	"chancel/parse"
	"chancel/show"
)

// Each operation as a kid of each other one, at each place: in brackets just where its level is below the one that is asked for.
func TestP601EachKidOfEachOperation(t *testing.T) {
	for _, op := range allOps() {
		for at := range kidsOf(op) {
			for _, below := range allOps() {
				e, kid := sample(op, 1), sample(below, 5)
				e.Kids[at] = kid
				f, inner := formOf(e), byForms(kid)
				want := f.around[0]
				for i := range e.Kids {
					s := byForms(e.Kids[i])
					if i == at && formOf(kid).level < f.asked[at] {
						s = "(" + inner + ")"
					}
					want += s + f.around[i+1]
				}
				exprs.check(t, e, want)
				checkNoSpareBrackets(t, e)
			}
		}
	}
}

// The levels, one by one: a kid of the level that is asked for and one above it without brackets, one below it in them.
func TestP601KidsAtTheLevelsBound(t *testing.T) {
	byLevel := []api.Expr{sample(api.OIf, 7), sample(api.OOr, 7), sample(api.OAnd, 7), sample(api.OSame, 7), sample(api.OAdd, 7), sample(api.OMul, 7), sample(api.ONeg, 7), sample(api.OGet, 7), long(7)}
	asked := map[int][]int{
		api.OGet: {7}, api.OHas: {4}, api.OHolds: {7, 0}, api.OLike: {4}, api.ONot: {6}, api.ONeg: {6},
		api.OMul: {5, 6}, api.OAdd: {4, 5}, api.OSub: {4, 5},
		api.OLess: {4, 4}, api.OLeast: {4, 4}, api.OMore: {4, 4}, api.OMost: {4, 4}, api.OSame: {4, 4}, api.OOther: {4, 4}, api.OIn: {4, 4},
		api.OAnd: {2, 3}, api.OOr: {1, 2}, api.OIf: {0, 0, 0}, api.OSet: {0, 0},
	}
	for op, l := range asked {
		for at, least := range l {
			for level, kid := range byLevel {
				e := sample(op, 1)
				e.Kids[at] = kid
				s, inner := show.Expr(e), show.Expr(kid)
				// The call of contains has brackets of its own.
				call := op == api.OHolds && at == 1
				if in := strings.Contains(s, "("+inner+")") && !call; in != (level < least) {
					t.Errorf("%s: asked for %d: of level %d", s, least, level)
				}
				if !strings.Contains(s, inner) {
					t.Errorf("%s: has no %s", s, inner)
				}
			}
		}
	}
}

// brackets tells the places of each `(` and its `)` that a text could be without: those of calls aside.
func brackets(t *testing.T, s string) [][2]int {
	t.Helper()
	tokens, err := lex.Tokens(s)
	if err != api.OK {
		t.Fatalf("%s: %v", s, err)
	}
	var l [][2]int
	var open []int
	for i, token := range tokens {
		switch {
		case token.Kind != lex.Sign:
		case token.Text == "(":
			open = append(open, i)
		case token.Text == ")":
			from := open[len(open)-1]
			open = open[:len(open)-1]
			if call := from >= 2 && tokens[from-2].Text == "." && tokens[from-2].Kind == lex.Sign; !call {
				l = append(l, [2]int{tokens[from].At, token.At})
			}
		}
	}
	return l
}

// checkNoSpareBrackets tells whether without any pair of its brackets what is written would be read otherwise, or not at all.
func checkNoSpareBrackets(t *testing.T, e api.Expr) {
	t.Helper()
	s := show.Expr(e)
	for _, pair := range brackets(t, s) {
		less := s[:pair[0]] + " " + s[pair[0]+1:pair[1]] + " " + s[pair[1]+1:]
		if got, err := parse.Expr(less); err == api.OK && dump(got) == dump(e) {
			t.Errorf("%s: read as the same without brackets: %s", s, less)
		}
	}
}

// randomTree makes one that Check allows, at most so deep.
func randomTree(r *rand.Rand, depth int) api.Expr {
	texts := []string{"", "a", "é*\n", "in", "\"\\\t\x00\x1f\x7f", strings.Repeat("x", 30)}
	names := append([]string{"a", "_b", "Abcdefghijkl"}, words...)
	op := api.OSet + r.Intn(api.OIf-api.OSet+1)
	if depth == 1 {
		op = api.OBool + r.Intn(api.OSet-api.OBool+1)
	}
	e := api.Expr{Op: op}
	switch op {
	case api.OBool:
		e.B = r.Intn(2) == 0
	case api.OLong:
		e.N = []int64{0, 1, 42, 1<<63 - 1}[r.Intn(4)]
	case api.OStr, api.OLike:
		e.S = texts[r.Intn(len(texts))]
	case api.OUid:
		e.U = id(names[r.Intn(len(names))], texts[r.Intn(len(texts))])
	case api.OVar:
		e.S = []string{"principal", "action", "resource"}[r.Intn(3)]
	case api.OGet, api.OHas:
		e.S = names[r.Intn(len(names))]
	}
	count := kidsOf(op)
	switch {
	case depth == 1:
		count = 0
	case op == api.OSet:
		count = r.Intn(9)
	}
	// One kid goes on, the others are small: so a tree may be deep, and its text short.
	spine := r.Intn(max(count, 1))
	for i := range count {
		if i == spine {
			e.Kids = append(e.Kids, randomTree(r, depth-1))
		} else {
			e.Kids = append(e.Kids, randomTree(r, 1+r.Intn(min(depth-1, 3))))
		}
	}
	return e
}

// P601, P603: trees of any shape are written by the forms, read as they were as far as the bounds of lex go, and have no brackets to spare.
func TestP603RandomTrees(t *testing.T) {
	r := rand.New(rand.NewSource(1))
	seen := map[int]int{}
	for range 6000 {
		e := randomTree(r, 1+r.Intn(10))
		exprs.written(t, e, byForms(e))
		_, err := lex.Tokens(byForms(e))
		if err != api.OK {
			if err != api.ErrLong && err != api.ErrMany {
				t.Fatalf("%s: %v", byForms(e), err)
			}
			continue
		}
		exprs.back(t, e)
		checkNoSpareBrackets(t, e)
		seen[parse.Depth(e)]++
		if t.Failed() {
			return
		}
	}
	for depth := 1; depth <= api.MaxDepth; depth++ {
		if seen[depth] < 20 {
			t.Errorf("%d deep: %d trees", depth, seen[depth])
		}
	}
}

// P603: what is read of a text with brackets to spare is written without these, and read as the same.
func TestP603TextsWithSpareBrackets(t *testing.T) {
	r := rand.New(rand.NewSource(2))
	for range 5000 {
		e := randomTree(r, 1+r.Intn(6))
		s := show.Expr(e)
		tokens, err := lex.Tokens(s)
		if err != api.OK {
			continue
		}
		// Around a number brackets may stand anywhere.
		for i, token := range slices.Backward(tokens) {
			if token.Kind == lex.Long && r.Intn(2) == 0 {
				end := len(s)
				if i+1 < len(tokens) {
					end = tokens[i+1].At
				}
				s = s[:token.At] + "((" + s[token.At:end] + ") )" + s[end:]
			}
		}
		if got, err := parse.Expr("( // a\n" + s + ")"); err == api.OK {
			exprs.written(t, got, byForms(e))
		} else if err != api.ErrLong && err != api.ErrMany {
			t.Fatalf("%s: %v", s, err)
		}
	}
}
