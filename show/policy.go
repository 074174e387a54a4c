package show

import (
	"strings"

	"chancel/api"
)

// Policy writes one.
func Policy(p api.Policy) string {
	return effect(p.Forbid) + "(principal" + scope(p.Principal) + ", action" + scope(p.Action) + ", resource" + scope(p.Resource) + ")" + strings.Join(each(p.Conds, cond), "") + ";"
}

func effect(forbid bool) string {
	if forbid {
		return "forbid"
	}
	return "permit"
}

// scope writes what stands behind a variable; of one of no kind nothing.
func scope(s api.Scope) string {
	switch s.Kind {
	case api.SSame:
		return " == " + Uid(s.U)
	case api.SIn:
		return " in " + Uid(s.U)
	}
	return ""
}

// cond writes one, with the blank ahead of it.
func cond(c api.Cond) string {
	word := " when"
	if c.Unless {
		word = " unless"
	}
	return word + " { " + Expr(c.E) + " }"
}
