package parse_test

import (
	"strings"
	"testing"

	"chancel/api"
	"chancel/parse"
)

const plainPolicy = `permit(principal, action, resource)`

func scope(kind int, t, id string) api.Scope {
	return api.Scope{Kind: kind, U: api.Uid{Type: t, Id: id}}
}

func when(e api.Expr) api.Cond { return api.Cond{E: e} }

func unless(e api.Expr) api.Cond { return api.Cond{Unless: true, E: e} }

func TestP501Policies(t *testing.T) {
	checkRead(t, parse.Policy, plainPolicy+`;`, api.Policy{})
	checkRead(t, parse.Policy, `forbid(principal, action, resource);`, api.Policy{Forbid: true})
	checkRead(t, parse.Policy, "forbid ( principal==A::\"b\",action in C::\"\",resource== D :: \"e\" )\nwhen{1}unless{true}// end\n;", api.Policy{
		Forbid:    true,
		Principal: scope(api.SSame, "A", "b"),
		Action:    scope(api.SIn, "C", ""),
		Resource:  scope(api.SSame, "D", "e"),
		Conds:     []api.Cond{when(long(1)), unless(truth(true))},
	})
	checkRead(t, parse.Policy, `permit(principal in in::"in", action == permit::"permit", resource in resource::"==") unless { 1 } when { 2 } unless { 3 } unless { if 1 then 2 else 3 };`, api.Policy{
		Principal: scope(api.SIn, "in", "in"),
		Action:    scope(api.SSame, "permit", "permit"),
		Resource:  scope(api.SIn, "resource", "=="),
		Conds:     []api.Cond{unless(long(1)), when(long(2)), unless(long(3)), unless(node(api.OIf, long(1), long(2), long(3)))},
	})
	checkRead(t, parse.Policy, plainPolicy+` when { when::"a" == principal } ;`, api.Policy{Conds: []api.Cond{when(node(api.OSame, uid("when", "a"), variable("principal")))}})
}

func TestP501ScopesOfEach(t *testing.T) {
	texts := []string{``, ` == A::"b"`, ` in A::"b"`}
	scopes := []api.Scope{{}, scope(api.SSame, "A", "b"), scope(api.SIn, "A", "b")}
	for i, p := range scopes {
		for k, a := range scopes {
			for j, r := range scopes {
				checkRead(t, parse.Policy, `permit(principal`+texts[i]+`, action`+texts[k]+`, resource`+texts[j]+`);`, api.Policy{Principal: p, Action: a, Resource: r})
			}
		}
	}
	for _, bad := range []string{`==`, `in`, `== A`, `== A::`, `== A::b`, `== "b"`, `== ::"b"`, `A::"b"`, `!= A::"b"`, `< A::"b"`, `is A`, `has a`, `== A::"b" == A::"b"`, `in A::"b" in A::"b"`, `in A::"b" == C::"d"`, `in [A::"b"]`, `in (A::"b")`, `== principal`, `.a`, `,`, `:: "b"`, `"==" A::"b"`, `"in" A::"b"`, `== A::"b".c`, `1`} {
		checkErrors(t, parse.Policy, api.ErrForm, `permit(principal `+bad+`, action, resource);`, `permit(principal, action `+bad+`, resource);`, `permit(principal, action, resource `+bad+`);`)
	}
}

func TestP501PoliciesThatAreNone(t *testing.T) {
	checkErrors(t, parse.Policy, api.ErrForm, ``, `;`, `permit`, `permit;`, `permit();`, `permit(principal);`, `permit(principal, action);`, `permit(action, principal, resource);`, `permit(principal, resource, action);`, `permit(resource, action, principal);`, `permit(principal, principal, resource);`, `permit(principal action resource);`, `permit(principal, action, resource,);`, `permit(,principal, action, resource);`, `permit principal, action, resource;`, `permit[principal, action, resource];`, `allow(principal, action, resource);`, `Permit(principal, action, resource);`, `"permit"(principal, action, resource);`, `permit("principal", action, resource);`, `permit forbid(principal, action, resource);`, `permit(principal, action, resource);permit(principal, action, resource);`, `permit(principal, action, resource);;`)
	checkErrors(t, parse.Policy, api.ErrForm, plainPolicy, plainPolicy+` when;`, plainPolicy+` when {};`, plainPolicy+` when { };`, plainPolicy+` {1};`, plainPolicy+` when 1;`, plainPolicy+` when (1);`, plainPolicy+` when {1;`, plainPolicy+` when 1};`, plainPolicy+` when {1}`, plainPolicy+` when {1},;`, plainPolicy+` when {1, 2};`, plainPolicy+` when {1 2};`, plainPolicy+` when {1;};`, plainPolicy+` when {x};`, plainPolicy+` if {1};`, plainPolicy+` When {1};`, plainPolicy+` "when" {1};`, plainPolicy+` when unless {1};`, plainPolicy+` when {1} {2};`, plainPolicy+`; when {1}`, plainPolicy+`; when {1};`, `when {1} `+plainPolicy+`;`)
}

func TestP501PoliciesOfFourConditions(t *testing.T) {
	for n := range 8 {
		var conds []api.Cond
		s := plainPolicy
		for i := range n {
			if i%2 == 1 {
				s, conds = s+" when {1}", append(conds, when(long(1)))
			} else {
				s, conds = s+" unless {2}", append(conds, unless(long(2)))
			}
		}
		if n > 4 {
			checkError(t, parse.Policy, s+";", api.ErrMany)
		} else {
			checkRead(t, parse.Policy, s+";", api.Policy{Conds: conds})
		}
		checkErrors(t, parse.Policy, api.ErrForm, s, s+" when {};", s+";;")
	}
}

func TestP501PoliciesWhichErrorFirst(t *testing.T) {
	nine, deep := "["+times("1", 9, ",")+"]", strings.Repeat("!", 10)+"true"
	for _, word := range []string{" when ", " unless "} {
		checkError(t, parse.Policy, plainPolicy+word+"{"+nine+"};", api.ErrMany)
		checkError(t, parse.Policy, plainPolicy+word+"{"+deep+"};", api.ErrDeep)
		checkError(t, parse.Policy, plainPolicy+word+"{1}"+word+"{1}"+word+"{1}"+word+"{"+deep+"};", api.ErrDeep)
		checkError(t, parse.Policy, plainPolicy+word+"{"+deep+"}"+word+"{"+nine+"};", api.ErrDeep)
		checkError(t, parse.Policy, plainPolicy+word+"{"+nine+"}"+word+"{"+deep+"};", api.ErrMany)
		checkError(t, parse.Policy, plainPolicy+word+"{"+deep+"}"+times(word+"{1}", 4, "")+";", api.ErrMany)
		checkErrors(t, parse.Policy, api.ErrForm, plainPolicy+word+"{"+nine+"}", plainPolicy+word+"{"+deep+"};1", plainPolicy+word+"{"+deep+"}"+word+"{};")
	}
	checkRead(t, parse.Policy, plainPolicy+" when {"+deep[1:]+"};", api.Policy{Conds: []api.Cond{when(nots(9))}})
}

func nots(n int) api.Expr {
	e := truth(true)
	for range n {
		e = node(api.ONot, e)
	}
	return e
}
