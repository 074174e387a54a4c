package types_test

import (
	"strings"
	"testing"

	"chancel/api"
	"chancel/types"
)

// all are the environments of the usual schema.
const all = "C A A, A a B, A a C, B a B, B a C, A b A, A b B, A b C"

func TestP1102EnvsWithoutScopes(t *testing.T) {
	checkEnvs(t, usual(t), api.Policy{}, all)
	checkEnvs(t, usual(t), policy(t, `forbid(principal, action, resource) when { 1 } unless { D::"" };`), all)
	checkEnvs(t, api.Schema{}, api.Policy{}, "")
}

// checkScopes tells whether a policy of these scopes, as text, has just these environments.
func checkScopes(t *testing.T, principal, action, resource, want string) {
	t.Helper()
	for _, effect := range []string{"permit", "forbid"} {
		checkEnvs(t, usual(t), policy(t, effect+"(principal "+principal+", action "+action+", resource "+resource+");"), want)
	}
}

func TestP1102EnvsOfSame(t *testing.T) {
	checkScopes(t, `== A::""`, ``, ``, "A a B, A a C, A b A, A b B, A b C")
	checkScopes(t, `== B::"x"`, ``, ``, "B a B, B a C")
	checkScopes(t, `== C::"x"`, ``, ``, "C A A")
	checkScopes(t, ``, ``, `== A::""`, "C A A, A b A")
	checkScopes(t, ``, ``, `== B::""`, "A a B, B a B, A b B")
	checkScopes(t, ``, ``, `== C::"a"`, "A a C, B a C, A b C")
	checkScopes(t, ``, `== Action::"a"`, ``, "A a B, A a C, B a B, B a C")
	checkScopes(t, ``, `== Action::"b"`, ``, "A b A, A b B, A b C")
	checkScopes(t, ``, `== Action::"A"`, ``, "C A A")
	checkScopes(t, `== A::""`, `== Action::"a"`, `== C::""`, "A a C")
	checkScopes(t, `== A::""`, ``, `== C::""`, "A a C, A b C")
}

// A principal or a resource may be in whatever there is; an action is in itself alone.
func TestP1102EnvsOfIn(t *testing.T) {
	for _, u := range []string{`A::""`, `B::"x"`, `C::""`, `Action::"a"`, `D::""`, `Action::"z"`} {
		checkScopes(t, "in "+u, ``, ``, all)
		checkScopes(t, ``, ``, "in "+u, all)
		checkScopes(t, "in "+u, `in Action::"a"`, "in "+u, "A a B, A a C, B a B, B a C")
	}
	checkScopes(t, ``, `in Action::"a"`, ``, "A a B, A a C, B a B, B a C")
	checkScopes(t, ``, `in Action::"b"`, ``, "A b A, A b B, A b C")
	checkScopes(t, `in C::""`, `in Action::"a"`, `== B::""`, "A a B, B a B")
	checkScopes(t, `== B::""`, `in Action::"a"`, `in A::""`, "B a B, B a C")
}

func TestP1102NoEnvs(t *testing.T) {
	for _, how := range []string{"== ", "in "} {
		for _, u := range []string{`Action::""`, `Action::"z"`, `Action::"B"`, `Action::"aa"`, `A::"a"`, `A::"A"`, `a::"a"`, `action::"a"`, `D::"a"`, `Actions::"a"`} {
			checkScopes(t, ``, how+u, ``, "")
		}
	}
	for _, u := range []string{`D::""`, `Action::"a"`, `Action::"A"`, `a::"a"`, `AA::""`} {
		checkScopes(t, "== "+u, ``, ``, "")
		checkScopes(t, ``, ``, "== "+u, "")
	}
	checkScopes(t, `== B::""`, ``, `== A::""`, "")
	checkScopes(t, `== C::""`, `== Action::"a"`, ``, "")
	checkScopes(t, ``, `== Action::"a"`, `== A::""`, "")
	checkEnvs(t, made(t, `entity A {}; entity B {};`), api.Policy{}, "")
	checkEnvs(t, made(t, `entity A {}; entity B {};`), policy(t, `permit(principal == A::"", action, resource);`), "")
}

// Types stand as the action has them, one that stands there twice, too.
func TestP1102EnvsInOrder(t *testing.T) {
	s := made(t, `entity A {}; entity B {}; entity C {}; action z: A -> B; action _: C, A, C -> B, B; action Z: B -> C, A, B, C, A, B;`)
	checkEnvs(t, s, api.Policy{}, "B Z C, B Z A, B Z B, B Z C, B Z A, B Z B, C _ B, C _ B, A _ B, A _ B, C _ B, C _ B, A z B")
	checkEnvs(t, s, policy(t, `permit(principal == C::"", action, resource);`), "C _ B, C _ B, C _ B, C _ B")
	checkEnvs(t, s, policy(t, `permit(principal, action == Action::"Z", resource == A::"");`), "B Z A, B Z A")
}

func TestP1102EnvsAtTheBounds(t *testing.T) {
	var text strings.Builder
	names := strings.Fields("A B C D E F")
	for _, name := range names {
		text.WriteString("entity " + name + " {}; action " + name + ": F, E, D, C, B, A -> A, B, C, D, E, F;\n")
	}
	s := made(t, text.String())
	var want []string
	for _, a := range names {
		for _, p := range strings.Fields("F E D C B A") {
			for _, r := range names {
				want = append(want, p+" "+a+" "+r)
			}
		}
	}
	checkEnvs(t, s, api.Policy{}, strings.Join(want, ", "))
	checkEnvs(t, s, policy(t, `permit(principal == F::"", action == Action::"F", resource == F::"");`), "F F F")
	checkEnvs(t, s, policy(t, `permit(principal == A::"", action in Action::"A", resource == F::"");`), "A A F")
}

// A scope of SAny says nothing, though a uid stands in it.
func TestP1102EnvsOfAnyWithAUid(t *testing.T) {
	odd := api.Scope{Kind: api.SAny, U: uid("D", "z")}
	checkEnvs(t, usual(t), api.Policy{Principal: odd, Action: odd, Resource: odd}, all)
	checkPolicy(t, usual(t), api.Policy{Principal: odd, Action: odd, Resource: odd}, api.OK)
}

// No environments are no list, or an empty one (P2).
func TestP2NoEnvsAreNoList(t *testing.T) {
	if l := types.Envs(api.Schema{}, api.Policy{}); len(l) != 0 {
		t.Errorf("%v", l)
	}
	empty := api.Schema{Kinds: []api.Kind{}, Actions: []api.Action{}}
	if l := types.Envs(empty, api.Policy{Conds: []api.Cond{}}); len(l) != 0 {
		t.Errorf("%v", l)
	}
}
