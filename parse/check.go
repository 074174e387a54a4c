package parse

import (
	"chancel/api"
	"chancel/lex"
	"chancel/value"
)

// anyCount stands for the count of kids of an operation that may have any.
const anyCount = -1

// Check tells whether a tree is one that a text may make.
func Check(e api.Expr) api.Errno {
	// The depth behind all of the tree: a fault is told first, however deep it is.
	if err := checkNodes(e); err != api.OK {
		return err
	}
	if Depth(e) > api.MaxDepth {
		return api.ErrDeep
	}
	return api.OK
}

// Depth tells how many nodes stand one below the other.
func Depth(e api.Expr) int {
	deepest := 0
	for _, kid := range e.Kids {
		deepest = max(deepest, Depth(kid))
	}
	return deepest + 1
}

// checkNodes tells the first fault of a tree, a node ahead of its kids.
func checkNodes(e api.Expr) api.Errno {
	if err := checkNode(e); err != api.OK {
		return err
	}
	for _, kid := range e.Kids {
		if err := checkNodes(kid); err != api.OK {
			return err
		}
	}
	return api.OK
}

func checkNode(e api.Expr) api.Errno {
	count, ok := kidsOf(e.Op)
	switch {
	case !ok:
		return api.ErrKind
	case count != anyCount && count != len(e.Kids):
		return api.ErrForm
	case hasMore(e, bare(e)) || e.N < 0:
		return api.ErrArg
	}
	return checkContent(e)
}

// kidsOf tells how many kids an operation has, and whether there is such an operation.
func kidsOf(op int) (int, bool) {
	switch op {
	case api.OBool, api.OLong, api.OStr, api.OUid, api.OVar:
		return 0, true
	case api.OGet, api.OHas, api.OLike, api.ONot, api.ONeg:
		return 1, true
	case api.OHolds, api.OMul, api.OAdd, api.OSub, api.OLess, api.OLeast, api.OMore, api.OMost, api.OSame, api.OOther, api.OIn, api.OAnd, api.OOr:
		return 2, true
	case api.OIf:
		return 3, true
	case api.OSet:
		return anyCount, true
	}
	return 0, false
}

// bare tells a node with nothing in it but its operation's own, its kids aside.
func bare(e api.Expr) api.Expr {
	own := api.Expr{Op: e.Op}
	switch e.Op {
	case api.OBool:
		own.B = e.B
	case api.OLong:
		own.N = e.N
	case api.OStr, api.OVar, api.OGet, api.OHas, api.OLike:
		own.S = e.S
	case api.OUid:
		own.U = e.U
	}
	return own
}

func hasMore(e, own api.Expr) bool {
	return e.B != own.B || e.N != own.N || e.S != own.S || e.U != own.U
}

// checkContent tells whether what stands in a node may stand there.
func checkContent(e api.Expr) api.Errno {
	switch e.Op {
	case api.OStr, api.OLike:
		return value.Check(api.Value{Kind: api.VStr, S: e.S})
	case api.OUid:
		return value.Check(api.Value{Kind: api.VUid, U: e.U})
	case api.OVar:
		return checkName(isVariable(e.S))
	case api.OGet, api.OHas:
		return checkName(lex.Ident(e.S))
	case api.OSet:
		if len(e.Kids) > api.MaxSet {
			return api.ErrMany
		}
	}
	return api.OK
}

func checkName(is bool) api.Errno {
	if !is {
		return api.ErrName
	}
	return api.OK
}
