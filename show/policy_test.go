package show_test

import (
	"testing"

	"chancel/api"
	"chancel/show"
)

func when(e api.Expr) api.Cond { return api.Cond{E: e} }

func unless(e api.Expr) api.Cond { return api.Cond{Unless: true, E: e} }

// scopes are some, and what is written of each.
var scopes = []struct {
	s    api.Scope
	want string
}{
	{api.Scope{}, ""},
	{api.Scope{Kind: api.SSame, U: id("User", "al")}, ` == User::"al"`},
	{api.Scope{Kind: api.SIn, U: id("in", "\"\n")}, ` in in::"\"\n"`},
	{api.Scope{Kind: api.SSame, U: id("_9", "")}, ` == _9::""`},
}

func TestP602EachScope(t *testing.T) {
	for _, a := range scopes {
		for _, b := range scopes {
			for _, c := range scopes {
				p := api.Policy{Principal: a.s, Action: b.s, Resource: c.s}
				s := "(principal" + a.want + ", action" + b.want + ", resource" + c.want + ");"
				policies.check(t, p, "permit"+s)
				p.Forbid = true
				policies.check(t, p, "forbid"+s)
			}
		}
	}
}

func TestP602Conditions(t *testing.T) {
	const all = "permit(principal, action, resource)"
	policies.check(t, api.Policy{}, all+";")
	policies.check(t, api.Policy{Conds: []api.Cond{}}, all+";")
	policies.check(t, api.Policy{Conds: []api.Cond{when(truth(true))}}, all+" when { true };")
	policies.check(t, api.Policy{Conds: []api.Cond{unless(truth(false))}}, all+" unless { false };")
	policies.check(t, api.Policy{Conds: []api.Cond{unless(long(1)), when(long(2)), when(long(2)), unless(long(3))}}, all+" unless { 1 } when { 2 } when { 2 } unless { 3 };")
	policies.check(t, api.Policy{Forbid: true, Conds: []api.Cond{when(str("};"))}}, `forbid(principal, action, resource) when { "};" };`)
}

// A condition is asked for level 0: whatever it is, it has no brackets around it.
func TestP602EachOperationAsACondition(t *testing.T) {
	for _, op := range allOps() {
		e := sample(op, 1)
		policies.check(t, api.Policy{Conds: []api.Cond{when(e), unless(e)}}, "permit(principal, action, resource) when { "+show.Expr(e)+" } unless { "+show.Expr(e)+" };")
	}
}

func TestP603PoliciesOfTexts(t *testing.T) {
	policies.from(t, "permit(principal,action,resource);", "permit(principal, action, resource);")
	policies.from(t, "forbid ( principal==A::\"x\",action in B :: \"\",\nresource in A::\"\\u{A}\" )// why\nunless{((1)==2)}when{ if(true)then[]else(-(1)) };", `forbid(principal == A::"x", action in B::"", resource in A::"\n") unless { 1 == 2 } when { if true then [] else -1 };`)
}
