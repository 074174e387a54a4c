package types_test

import (
	"testing"

	"chancel/api"
	"chancel/types"
)

// checkText tells what is said of a policy's text.
func checkText(t *testing.T, text string, want api.Errno) {
	t.Helper()
	checkPolicy(t, usual(t), policy(t, text), want)
}

func TestP1102CheckWithoutConditions(t *testing.T) {
	for _, text := range []string{
		`permit(principal, action, resource);`, `forbid(principal, action, resource);`, `permit(principal == A::"", action, resource);`,
		`permit(principal in C::"", action in Action::"a", resource in A::"");`, `permit(principal == A::"x", action == Action::"b", resource == C::"y");`,
		`permit(principal in Action::"a", action, resource in Action::"A");`,
	} {
		checkText(t, text, api.OK)
	}
}

func TestP1102CheckScopes(t *testing.T) {
	for _, how := range []string{"==", "in"} {
		for _, u := range []string{`D::""`, `Action::""`, `Action::"z"`, `Action::"B"`, `a::"a"`, `action::"a"`, `Bool::""`} {
			checkText(t, `permit(principal `+how+` `+u+`, action, resource);`, api.ErrName)
			checkText(t, `permit(principal, action `+how+` `+u+`, resource);`, api.ErrName)
			checkText(t, `forbid(principal, action, resource `+how+` `+u+`);`, api.ErrName)
			checkText(t, `forbid(principal, action, resource `+how+` `+u+`) when { 1 };`, api.ErrName)
		}
	}
}

// A uid that is none is told ahead of there being no environments, wherever it stands, and ahead of what conditions err.
func TestP1102CheckScopesAheadOfEnvs(t *testing.T) {
	for _, text := range []string{
		`permit(principal == D::"", action == Action::"z", resource == D::"");`,
		`permit(principal == Action::"a", action, resource in D::"");`,
		`permit(principal, action == A::"a", resource == D::"");`,
		`permit(principal == D::"", action == A::"a", resource == Action::"a");`,
		`permit(principal == B::"", action in Action::"z", resource == A::"") when { 1 };`,
		`permit(principal in D::"", action, resource) when { 1 };`,
		`permit(principal, action, resource in D::"") when { 1 + true == 1 } when { principal.x };`,
	} {
		checkText(t, text, api.ErrName)
	}
	checkPolicy(t, api.Schema{}, policy(t, `permit(principal, action, resource == A::"");`), api.ErrName)
}

func TestP1102CheckNoEnvs(t *testing.T) {
	for _, text := range []string{
		`permit(principal == Action::"a", action, resource);`, `permit(principal, action, resource == Action::"a");`, `permit(principal, action == A::"a", resource);`, `permit(principal, action in B::"a", resource);`,
		`permit(principal == B::"", action, resource == A::"");`, `permit(principal == C::"", action == Action::"a", resource);`,
		`permit(principal == B::"", action, resource == A::"") when { 1 };`, `permit(principal == B::"", action, resource == A::"") when { D::"" };`,
	} {
		checkText(t, text, api.ErrNone)
	}
	for _, s := range []api.Schema{{}, made(t, `entity A {};`)} {
		checkPolicy(t, s, api.Policy{}, api.ErrNone)
		checkPolicy(t, s, policy(t, `permit(principal, action, resource) when { 1 };`), api.ErrNone)
	}
}

func TestP1102CheckConditions(t *testing.T) {
	for _, word := range []string{"when", "unless"} {
		for cond, want := range map[string]api.Errno{
			`true`: api.OK, `principal == resource`: api.OK, `action in [Action::"a"]`: api.OK, `principal has x`: api.OK, `resource has x && 1 < 2`: api.OK,
			`1`: api.ErrType, `"true"`: api.ErrType, `principal`: api.ErrType, `action`: api.ErrType, `[true]`: api.ErrType, `if true then 1 else 2`: api.ErrType, `[]`: api.ErrType,
			`!1`: api.ErrType, `1 + true == 1`: api.ErrType, `D::"" == principal`: api.ErrName, `action.x`: api.ErrName, `Action::"c" == action`: api.ErrName,
		} {
			checkText(t, `permit(principal, action, resource) `+word+` { `+cond+` };`, want)
			checkText(t, `forbid(principal == A::"", action == Action::"b", resource) `+word+` { true } `+word+` { `+cond+` };`, want)
		}
	}
}

// Each environment is asked: what one allows another one may not.
func TestP1102CheckEachEnvironment(t *testing.T) {
	for text, want := range map[string]api.Errno{
		`permit(principal == A::"", action, resource) when { principal.b };`:                                                 api.OK,
		`permit(principal, action, resource) when { principal.b };`:                                                          api.ErrName,
		`permit(principal, action == Action::"a", resource) when { principal.b };`:                                           api.ErrType,
		`permit(principal, action == Action::"b", resource) when { principal.b };`:                                           api.OK,
		`permit(principal, action == Action::"b", resource == A::"") when { resource.b };`:                                   api.OK,
		`permit(principal, action == Action::"b", resource) when { resource.b };`:                                            api.ErrType,
		`permit(principal, action == Action::"b", resource) when { resource has b };`:                                        api.OK,
		`permit(principal, action == Action::"b", resource == C::"") when { resource.b };`:                                   api.ErrName,
		`permit(principal in A::"", action == Action::"a", resource == B::"") when { resource.u.contains(principal) };`:      api.ErrType,
		`permit(principal == A::"", action == Action::"a", resource == B::"") when { resource.u.contains(principal) };`:      api.OK,
		`permit(principal == B::"", action == Action::"a", resource == B::"") when { resource.v.contains(principal) };`:      api.OK,
		`permit(principal, action == Action::"b", resource == A::"") when { [principal, resource] == [principal] };`:         api.OK,
		`permit(principal, action == Action::"b", resource) when { [principal, resource] == [principal] };`:                  api.ErrType,
		`permit(principal, action == Action::"b", resource in A::"") unless { (if true then principal else resource).b };`:   api.ErrType,
		`permit(principal, action == Action::"b", resource == A::"") unless { (if true then principal else resource).b };`:   api.OK,
		`permit(principal == C::"", action, resource) when { principal.A.A == C::"" } unless { resource.u == principal.A };`: api.OK,
	} {
		checkText(t, text, want)
	}
}

// A condition that errs in the second environment alone, or in the last one.
func TestP1102CheckALaterEnvironment(t *testing.T) {
	s := made(t, `entity A { x: Bool, y: Bool, z: Bool }; entity B { x: Long, z: Bool }; entity C { x: Bool, y: Bool }; action a: A, B, C -> A;`)
	for cond, want := range map[string]api.Errno{`principal.x`: api.ErrType, `principal.y`: api.ErrName, `principal.z`: api.ErrName, `principal.x == 1`: api.ErrType} {
		checkPolicy(t, s, policy(t, `permit(principal, action, resource) when { `+cond+` };`), want)
	}
	checkPolicy(t, s, policy(t, `permit(principal == A::"", action, resource) when { principal.x && principal.y && principal.z };`), api.OK)
	checkPolicy(t, s, policy(t, `permit(principal == C::"", action, resource) when { principal.x && principal.y };`), api.OK)
}

// All conditions are asked in the first environment ahead of the second one.
func TestP1102CheckWhichErrorIsTold(t *testing.T) {
	s := made(t, `entity A { x: Bool }; entity B { y: Bool }; action a: A, B -> A;`)
	for conds, want := range map[string]api.Errno{
		// In A's: the second one errs; in B's: the first one.
		`when { principal.x } when { 1 }`:                         api.ErrType,
		`when { principal.x } unless { principal.x == 1 }`:        api.ErrType,
		`when { principal.x }`:                                    api.ErrName,
		`when { principal.y } when { 1 }`:                         api.ErrName,
		`when { 1 } when { principal.y }`:                         api.ErrType,
		`when { 1 } when { D::"" }`:                               api.ErrType,
		`when { D::"" } when { 1 }`:                               api.ErrName,
		`when { true } when { D::"" } when { 1 }`:                 api.ErrName,
		`when { true } unless { true } when { true } when { 1 }`:  api.ErrType,
		`when { true } unless { true } when { 1 } when { D::"" }`: api.ErrType,
		`when { true } unless { D::"" } when { 1 } when { 1 }`:    api.ErrName,
		`when { true } unless { true } when { true }`:             api.OK,
	} {
		checkPolicy(t, s, policy(t, `permit(principal, action, resource) `+conds+`;`), want)
	}
}

// Unless and when, permit and forbid are checked alike.
func TestP1102CheckAsksForNoEffect(t *testing.T) {
	for _, cond := range []string{`true`, `1`, `D::""`, `principal.b`, `principal has b`} {
		p := api.Policy{Conds: []api.Cond{{E: tree(t, cond)}}}
		q := api.Policy{Forbid: true, Conds: []api.Cond{{Unless: true, E: tree(t, cond)}}}
		for _, s := range []api.Schema{usual(t), made(t, `entity A { b: Bool }; action a: A -> A;`), {}} {
			checkPolicy(t, s, q, types.Check(s, p))
		}
	}
}
