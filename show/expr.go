package show

import (
	"strconv"

	"chancel/api"
	"chancel/num"
	"chancel/text"
)

// Levels of operations: the higher ones bind first. Each is named after the rule of the language that reads it.
const (
	levelExpr = iota
	levelOr
	levelAnd
	levelRel
	levelAdd
	levelMul
	levelUn
	levelMem
	levelPrim
)

func level(op int) int {
	switch op {
	case api.OIf:
		return levelExpr
	case api.OOr:
		return levelOr
	case api.OAnd:
		return levelAnd
	case api.OLess, api.OLeast, api.OMore, api.OMost, api.OSame, api.OOther, api.OIn, api.OHas, api.OLike:
		return levelRel
	case api.OAdd, api.OSub:
		return levelAdd
	case api.OMul:
		return levelMul
	case api.ONot, api.ONeg:
		return levelUn
	case api.OGet, api.OHolds:
		return levelMem
	}
	return levelPrim
}

// Expr writes an expression, with brackets just where it would be read as another one without.
func Expr(e api.Expr) string {
	ahead := "" // of the text or the name with which a node ends
	switch e.Op {
	case api.OLike:
		ahead = kid(e, 0, levelAdd) + " like "
		fallthrough
	case api.OStr:
		return ahead + text.Quote(e.S)
	case api.OGet:
		ahead = kid(e, 0, levelMem) + "."
		fallthrough
	case api.OVar:
		return ahead + e.S
	case api.OHas:
		return kid(e, 0, levelAdd) + " has " + e.S
	case api.OBool:
		return strconv.FormatBool(e.B)
	case api.OLong:
		return num.Text(e.N)
	case api.OUid:
		return Uid(e.U)
	case api.OSet:
		return "[" + listed(each(e.Kids, Expr)) + "]"
	case api.OHolds:
		return kid(e, 0, levelMem) + ".contains(" + kid(e, 1, levelExpr) + ")"
	case api.ONot:
		return "!" + kid(e, 0, levelUn)
	case api.ONeg:
		return "-" + kid(e, 0, levelUn)
	case api.OIf:
		return "if " + kid(e, 0, levelExpr) + " then " + kid(e, 1, levelExpr) + " else " + kid(e, 2, levelExpr)
	}
	return ofTwo(e)
}

// kid writes one of a node's, in brackets if it binds less than is asked for. In a tree that may not be there may be none: then it is nothing.
func kid(e api.Expr, i, asked int) string {
	if i >= len(e.Kids) {
		return ""
	}
	s := Expr(e.Kids[i])
	if level(e.Kids[i].Op) < asked {
		return "(" + s + ")"
	}
	return s
}

// ofTwo writes a node whose sign stands between its kids; one of no operation is nothing.
func ofTwo(e api.Expr) string {
	sign := signOf(e.Op)
	if sign == "" {
		return ""
	}
	own := level(e.Op)
	first := own
	// All others lean to the left; a comparison may stand on neither side of another one.
	if own == levelRel {
		first = own + 1
	}
	return kid(e, 0, first) + " " + sign + " " + kid(e, 1, own+1)
}

// signOf tells which sign stands between the kids of an operation; none, if it is not such a one.
func signOf(op int) string {
	switch op {
	case api.OMul:
		return "*"
	case api.OAdd:
		return "+"
	case api.OSub:
		return "-"
	case api.OLess:
		return "<"
	case api.OLeast:
		return "<="
	case api.OMore:
		return ">"
	case api.OMost:
		return ">="
	case api.OSame:
		return "=="
	case api.OOther:
		return "!="
	case api.OIn:
		return "in"
	case api.OAnd:
		return "&&"
	case api.OOr:
		return "||"
	}
	return ""
}
