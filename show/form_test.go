package show_test

import (
	"slices"
	"strconv"
	"strings"

	"chancel/api"
	"chancel/text"
)

// form is what P601 says of an operation with kids: its level, what stands around them, and the level that each is asked for.
type form struct {
	level  int
	around []string
	asked  []int
}

// formOf tells that of a node.
func formOf(e api.Expr) form {
	switch e.Op {
	case api.OSet:
		around := slices.Repeat([]string{", "}, len(e.Kids)+1)
		around[0], around[len(e.Kids)] = "[", "]"
		if len(e.Kids) == 0 {
			around[0] = "[]"
		}
		return form{8, around, make([]int, len(e.Kids))}
	case api.OGet:
		return form{7, []string{"", "." + e.S}, []int{7}}
	case api.OHas:
		return form{3, []string{"", " has " + e.S}, []int{4}}
	case api.OHolds:
		return form{7, []string{"", ".contains(", ")"}, []int{7, 0}}
	case api.OLike:
		return form{3, []string{"", " like " + text.Quote(e.S)}, []int{4}}
	case api.ONot:
		return form{6, []string{"!", ""}, []int{6}}
	case api.ONeg:
		return form{6, []string{"-", ""}, []int{6}}
	case api.OIf:
		return form{0, []string{"if ", " then ", " else ", ""}, []int{0, 0, 0}}
	case api.OBool, api.OLong, api.OStr, api.OUid, api.OVar:
		return form{8, []string{leaf(e)}, nil}
	}
	return formOfTwo(e.Op)
}

func formOfTwo(op int) form {
	sign := map[int]string{api.OMul: "*", api.OAdd: "+", api.OSub: "-", api.OLess: "<", api.OLeast: "<=", api.OMore: ">", api.OMost: ">=", api.OSame: "==", api.OOther: "!=", api.OIn: "in", api.OAnd: "&&", api.OOr: "||"}[op]
	around := []string{"", " " + sign + " ", ""}
	switch op {
	case api.OMul:
		return form{5, around, []int{5, 6}}
	case api.OAdd, api.OSub:
		return form{4, around, []int{4, 5}}
	case api.OAnd:
		return form{2, around, []int{2, 3}}
	case api.OOr:
		return form{1, around, []int{1, 2}}
	}
	return form{3, around, []int{4, 4}}
}

func leaf(e api.Expr) string {
	switch e.Op {
	case api.OBool:
		return strconv.FormatBool(e.B)
	case api.OLong:
		return strconv.FormatInt(e.N, 10)
	case api.OStr:
		return text.Quote(e.S)
	case api.OUid:
		return e.U.Type + "::" + text.Quote(e.U.Id)
	}
	return e.S
}

// byForms writes a tree by what the forms say.
func byForms(e api.Expr) string {
	f := formOf(e)
	var b strings.Builder
	b.WriteString(f.around[0])
	for i, kid := range e.Kids {
		s := byForms(kid)
		if formOf(kid).level < f.asked[i] {
			s = "(" + s + ")"
		}
		b.WriteString(s + f.around[i+1])
	}
	return b.String()
}

// sample tells a node of an operation, with numbers from n on as its kids.
func sample(op int, n int64) api.Expr {
	e := api.Expr{Op: op}
	switch op {
	case api.OLong:
		e.N = n
	case api.OUid:
		e.U = id("A", "b")
	case api.OVar:
		e.S = "action"
	case api.OStr, api.OGet, api.OHas, api.OLike:
		e.S = "a"
	}
	for i := range kidsOf(op) {
		e.Kids = append(e.Kids, long(n+int64(i)))
	}
	return e
}

// kidsOf tells how many kids an operation has; of a set two.
func kidsOf(op int) int {
	switch op {
	case api.OBool, api.OLong, api.OStr, api.OUid, api.OVar:
		return 0
	case api.OGet, api.OHas, api.OLike, api.ONot, api.ONeg:
		return 1
	case api.OIf:
		return 3
	}
	return 2
}

func allOps() []int {
	var l []int
	for op := api.OBool; op <= api.OIf; op++ {
		l = append(l, op)
	}
	return l
}
