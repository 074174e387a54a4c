package decide_test

import (
	"testing"

	"chancel/api"
	"chancel/decide"
	"chancel/show"
)

// scoped is a uid of a request, a scope as text, and whether that holds.
type scoped struct {
	u     api.Uid
	scope string
	want  bool
}

// scopeds have each kind of scope, of uids that are itself, above, below, beside, not there, in a circle.
func scopeds() []scoped {
	a, b, c, d, gone := uid("A", "a"), uid("A", "b"), uid("A", "c"), uid("A", "d"), uid("A", "gone")
	x, z, none, act := uid("C", "x"), uid("C", "z"), uid("Z", "none"), uid("Action", "go")
	return []scoped{
		{a, ``, true}, {c, ``, true}, {x, ``, true}, {gone, ``, true}, {none, ``, true}, {act, ``, true}, {uid("A", ""), ``, true},

		{a, `== A::"a"`, true}, {a, `== A::"b"`, false}, {a, `== A::"c"`, false}, {a, `== A::"gone"`, false}, {a, `== C::"x"`, false},
		{b, `== A::"a"`, false}, {a, `== A::"A"`, false}, {a, `== a::"a"`, false}, {a, `== A::""`, false}, {a, `== A::"aa"`, false}, {a, `== AA::"a"`, false}, {a, `== C::"a"`, false}, {a, `== Z::"none"`, false},
		{gone, `== A::"gone"`, true}, {none, `== Z::"none"`, true}, {none, `== Z::"nine"`, false}, {uid("A", ""), `== A::""`, true},
		{x, `== C::"x"`, true}, {x, `== C::"y"`, false}, {x, `== C::"z"`, false}, {act, `== Action::"go"`, true}, {act, `== Action::"all"`, false}, {act, `== Action::"Go"`, false},

		{a, `in A::"a"`, true}, {a, `in A::"b"`, true}, {a, `in A::"c"`, true}, {a, `in A::"gone"`, true}, {a, `in A::"d"`, false}, {b, `in A::"a"`, false}, {c, `in A::"a"`, false}, {c, `in A::"b"`, false}, {gone, `in A::"c"`, false}, {gone, `in A::"gone"`, true},
		{d, `in A::"gone"`, true}, {d, `in A::"c"`, true}, {d, `in A::"a"`, false}, {d, `in C::"top"`, false},
		{a, `in A::"A"`, false}, {a, `in a::"a"`, false}, {a, `in C::"a"`, false}, {a, `in C::"b"`, false}, {a, `in A::""`, false}, {a, `in Z::"none"`, false},
		{none, `in Z::"none"`, true}, {none, `in A::"a"`, false}, {none, `in C::"top"`, false},
		{x, `in C::"x"`, true}, {x, `in C::"y"`, true}, {x, `in C::"z"`, true}, {x, `in C::"top"`, true}, {z, `in C::"y"`, true}, {z, `in C::"x"`, true}, {x, `in A::"a"`, false}, {x, `in Z::"none"`, false},
		{a, `in C::"x"`, true}, {a, `in C::"z"`, true}, {a, `in C::"top"`, true}, {b, `in C::"x"`, false}, {uid("C", "top"), `in C::"x"`, false},
		{act, `in Action::"go"`, true}, {act, `in Action::"all"`, true}, {act, `in Action::"Go"`, false}, {act, `in A::"a"`, false}, {uid("Action", "all"), `in Action::"go"`, false}, {uid("Action", "no"), `in Action::"all"`, false}, {uid("Action", "no"), `in Action::"no"`, true},
	}
}

// At each of the three places: the scope there is asked of the uid there.
func TestP1401EachScope(t *testing.T) {
	for _, x := range scopeds() {
		for _, effect := range effects() {
			p, r := policy(t, effect+`(principal `+x.scope+`, action, resource);`), request()
			r.Principal = x.u
			checkOne(t, usual(t), r, p, x.want, api.OK)

			p, r = policy(t, effect+`(principal, action `+x.scope+`, resource);`), request()
			r.Action = x.u
			checkOne(t, usual(t), r, p, x.want, api.OK)

			p, r = policy(t, effect+`(principal, action, resource `+x.scope+`);`), request()
			r.Resource = x.u
			checkOne(t, usual(t), r, p, x.want, api.OK)
		}
	}
}

// Each scope is held against its own one of the three uids, and each of them counts.
func TestP1401ScopesOfTheirOwn(t *testing.T) {
	r := request()
	uids := []api.Uid{r.Principal, r.Action, r.Resource, uid("A", "z")}
	for _, kind := range []int{api.SSame, api.SIn} {
		for i, u := range uids {
			for k, v := range uids {
				for n, w := range uids {
					p := api.Policy{Principal: api.Scope{Kind: kind, U: u}, Action: api.Scope{Kind: kind, U: v}, Resource: api.Scope{Kind: kind, U: w}}
					checkOne(t, usual(t), r, p, i == 0 && k == 1 && n == 2, api.OK)
					p = api.Policy{Forbid: true, Principal: api.Scope{Kind: kind, U: u}, Resource: api.Scope{Kind: kind, U: w}}
					checkOne(t, usual(t), r, p, i == 0 && n == 2, api.OK)
				}
			}
		}
	}
}

// All kinds at all places together.
func TestP1401ScopesTogether(t *testing.T) {
	for _, principal := range scopesOf(`A::"a"`, `A::"c"`, `A::"d"`) {
		for _, action := range scopesOf(`Action::"go"`, `Action::"all"`, `Action::"no"`) {
			for _, resource := range scopesOf(`A::"d"`, `A::"gone"`, `A::"a"`) {
				for _, effect := range effects() {
					p := policy(t, effect+`(principal `+principal.text+`, action `+action.text+`, resource `+resource.text+`) when { principal has n };`)
					checkOne(t, usual(t), request(), p, principal.holds && action.holds && resource.holds, api.OK)
				}
			}
		}
	}
}

type scopeText struct {
	text  string
	holds bool
}

// scopesOf are scopes of one itself, of one above it, and of one that it is not in.
func scopesOf(self, above, other string) []scopeText {
	return []scopeText{{``, true}, {`== ` + self, true}, {`in ` + self, true}, {`in ` + above, true}, {`== ` + above, false}, {`== ` + other, false}, {`in ` + other, false}}
}

// A scope of SAny asks for nothing, though a uid stands in it.
func TestP1401AnyWithAUid(t *testing.T) {
	odd := api.Scope{Kind: api.SAny, U: uid("A", "z")}
	for _, r := range []api.Request{request(), {}} {
		checkOne(t, usual(t), r, api.Policy{Principal: odd, Action: odd, Resource: odd}, true, api.OK)
		checkOne(t, nil, r, api.Policy{Forbid: true, Principal: odd, Action: odd, Resource: odd}, true, api.OK)
	}
}

// Without entities each one is in itself alone.
func TestP1401NoEntities(t *testing.T) {
	for _, l := range [][]api.Entity{nil, {}} {
		checkOne(t, l, request(), policy(t, `permit(principal, action, resource);`), true, api.OK)
		checkOne(t, l, request(), policy(t, `permit(principal in A::"a", action in Action::"go", resource == A::"d");`), true, api.OK)
		checkOne(t, l, request(), policy(t, `permit(principal in A::"b", action, resource);`), false, api.OK)
		checkOne(t, l, request(), policy(t, `permit(principal, action in Action::"all", resource);`), false, api.OK)
		checkOne(t, l, request(), policy(t, `permit(principal, action, resource in A::"gone");`), false, api.OK)
	}
}

// A circle leads back to where it begins, and out to what stands beside it, for each of those in it.
func TestP1401ScopesInACircle(t *testing.T) {
	l := row(t, `A::"a" in A::"a" {};`, `B::"a" in B::"b" {};`, `B::"b" in B::"a", B::"out" {};`)
	for text, want := range map[string]bool{
		`permit(principal in A::"a", action, resource);`:   true,
		`permit(principal in B::"a", action, resource);`:   false,
		`permit(principal, action in B::"b", resource);`:   true,
		`permit(principal, action in B::"out", resource);`: true,
		`permit(principal, action, resource in B::"a");`:   true,
		`permit(principal, action, resource in B::"out");`: true,
		`permit(principal, action, resource in A::"a");`:   false,
	} {
		r := api.Request{Principal: uid("A", "a"), Action: uid("B", "a"), Resource: uid("B", "b")}
		checkOne(t, l, r, policy(t, text), want, api.OK)
	}
}

// One scope that does not hold, at whichever place, is told ahead of what the conditions are: they are not looked at.
func TestP1401ScopesAheadOfConditions(t *testing.T) {
	conds := []string{`when { 1 }`, `unless { 1 }`, `when { principal.x }`, `when { A::"gone".n == 1 }`, `unless { A::"c".n + 1 == 1 }`, `when { 1 + true }`, `when { true } when { "a" }`, `when { true }`, `when { false }`}
	for _, scopes := range []string{
		`principal == A::"b", action, resource`, `principal in A::"d", action, resource`,
		`principal, action == Action::"all", resource`, `principal, action in Action::"no", resource`,
		`principal, action, resource == A::"b"`, `principal, action, resource in A::"a"`,
		`principal in Z::"none", action == Action::"go", resource in A::"d"`, `principal == A::"a", action == Z::"go", resource == A::"d"`, `principal in A::"b", action in Action::"all", resource in Z::"gone"`,
	} {
		for _, cond := range conds {
			for _, effect := range effects() {
				p := policy(t, effect+`(`+scopes+`) `+cond+`;`)
				checkOne(t, usual(t), request(), p, false, api.OK)
				a := decide.All(usual(t), request(), []decide.Named{{Name: "a", P: p}})
				if told(a) != "-|" {
					t.Errorf("%s: %s", show.Policy(p), told(a))
				}
			}
		}
	}
}
