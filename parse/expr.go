package parse

import (
	"chancel/api"
	"chancel/lex"
)

// comparisons are the words and signs that stand between two sums.
var comparisons = [...]struct {
	kind int
	text string
	op   int
}{
	{lex.Sign, "==", api.OSame},
	{lex.Sign, "!=", api.OOther},
	{lex.Sign, "<", api.OLess},
	{lex.Sign, "<=", api.OLeast},
	{lex.Sign, ">", api.OMore},
	{lex.Sign, ">=", api.OMost},
	{lex.Name, "in", api.OIn},
}

func node(op int, kids ...api.Expr) api.Expr {
	return api.Expr{Op: op, Kids: kids}
}

func (r *reader) expr() api.Expr {
	// Ahead of the word: `if` may be the type of a uid.
	if r.atUid() || !r.word("if") {
		return r.or()
	}
	test := r.expr()
	r.needWord("then")
	then := r.expr()
	r.needWord("else")
	return node(api.OIf, test, then, r.expr())
}

func (r *reader) or() api.Expr {
	e := r.and()
	for r.sign("||") {
		e = node(api.OOr, e, r.and())
	}
	return e
}

func (r *reader) and() api.Expr {
	e := r.rel()
	for r.sign("&&") {
		e = node(api.OAnd, e, r.rel())
	}
	return e
}

func (r *reader) rel() api.Expr {
	e := r.add()
	for _, c := range comparisons {
		if r.take(c.kind, c.text) {
			return node(c.op, e, r.add())
		}
	}
	switch {
	case r.word("has"):
		e = node(api.OHas, e)
		e.S = r.name()
	case r.word("like"):
		e = node(api.OLike, e)
		e.S = r.str()
	}
	return e
}

func (r *reader) add() api.Expr {
	e := r.mul()
	for {
		switch {
		case r.sign("+"):
			e = node(api.OAdd, e, r.mul())
		case r.sign("-"):
			e = node(api.OSub, e, r.mul())
		default:
			return e
		}
	}
}

func (r *reader) mul() api.Expr {
	e := r.un()
	for r.sign("*") {
		e = node(api.OMul, e, r.un())
	}
	return e
}

func (r *reader) un() api.Expr {
	switch {
	case r.sign("!"):
		return node(api.ONot, r.un())
	case r.sign("-"):
		return node(api.ONeg, r.un())
	}
	return r.mem()
}

func (r *reader) mem() api.Expr {
	e := r.prim()
	for r.sign(".") {
		e = r.member(e)
	}
	return e
}

// member reads what stands behind the dot: an attribute's name, or a call, of which there is one alone.
func (r *reader) member(of api.Expr) api.Expr {
	name := r.name()
	if !r.sign("(") {
		e := node(api.OGet, of)
		e.S = name
		return e
	}
	if name != "contains" {
		r.fail()
	}
	e := node(api.OHolds, of, r.expr())
	r.needSign(")")
	return e
}

func (r *reader) prim() api.Expr {
	switch {
	case r.atUid():
		return api.Expr{Op: api.OUid, U: r.uid()}
	case r.sign("("):
		e := r.expr()
		r.needSign(")")
		return e
	case r.sign("["):
		return node(api.OSet, listUpTo(r, (*reader).expr, "]")...)
	}
	return r.leaf()
}

func (r *reader) leaf() api.Expr {
	switch r.peek(0).Kind {
	case lex.Long:
		return api.Expr{Op: api.OLong, N: r.long()}
	case lex.Str:
		return api.Expr{Op: api.OStr, S: r.str()}
	}
	return r.worded()
}

// worded reads a name that means something by itself.
func (r *reader) worded() api.Expr {
	var e api.Expr
	switch word := r.name(); {
	case word == "true":
		e.B = true
		fallthrough
	case word == "false":
		e.Op = api.OBool
	case isVariable(word):
		e.Op, e.S = api.OVar, word
	default:
		r.fail()
	}
	return e
}

func isVariable(word string) bool {
	return word == "principal" || word == "action" || word == "resource"
}
