package eval_test

import (
	"testing"

	"chancel/api"
)

func TestP1301AndOrOfEachKind(t *testing.T) {
	eachTwo(t, func(v, w api.Value, a, b api.Expr) {
		isOne, isOther := v.Kind == api.VBool, w.Kind == api.VBool
		// What the first one decides is told whatever the second one is.
		checkOf(t, node(api.OAnd, a, b), isOne && (!v.B || isOther), truth(v.B && w.B))
		checkOf(t, node(api.OOr, a, b), isOne && (v.B || isOther), truth(v.B || w.B))
	})
	each(t, func(v api.Value, e api.Expr) {
		checkOf(t, node(api.ONot, e), v.Kind == api.VBool, truth(!v.B))
		checkOf(t, node(api.OIf, e, e, e), v.Kind == api.VBool, v)
	})
}

func TestP1301IfOfEachKind(t *testing.T) {
	eachTwo(t, func(v, w api.Value, a, b api.Expr) {
		checkValue(t, usual(t), node(api.OIf, tree(t, `true`), a, b), v)
		checkValue(t, usual(t), node(api.OIf, tree(t, `false`), a, b), w)
		checkValue(t, usual(t), node(api.OIf, tree(t, `resource in principal`), a, b), w)
		checkOf(t, node(api.OIf, a, b, b), v.Kind == api.VBool, w)
		checkOf(t, node(api.OIf, a, b, tree(t, `1 + true`)), v.Kind == api.VBool && v.B, w)
		checkOf(t, node(api.OIf, a, tree(t, `1 + true`), b), v.Kind == api.VBool && !v.B, w)
	})
}

// bad are trees that err, each in its own way.
func bad() map[string]api.Errno {
	return map[string]api.Errno{
		`A::"no".b`: api.ErrGone, `principal.x`: api.ErrName, `(principal.l + 1)`: api.ErrOver, `(1 + true)`: api.ErrType, `!1`: api.ErrType, `[[1]]`: api.ErrType, `1.x`: api.ErrType, `(if 1 then true else true)`: api.ErrType, `-(A::"b".l - 1)`: api.ErrOver,
	}
}

// What is not looked at does not err, whatever it is; what is looked at does.
func TestP1301WhatIsNotLookedAt(t *testing.T) {
	for text, err := range bad() {
		checkFalse(t, `false && `+text, `resource in principal && `+text, `false && (true || `+text+`) && `+text, `if true then false else `+text, `!(true || `+text+`)`)
		checkTrue(t, `true || `+text, `principal has b || `+text, `true || (false && `+text+`) || `+text, `if false then `+text+` else true`, `!(false && `+text+`)`, `if 1 < 2 then true else `+text)
		checkErrs(t, err,
			`true && `+text, `false || `+text, text+` && false`, text+` || true`, `if `+text+` then 1 else 1`, `if true then `+text+` else 1`, `if false then 1 else `+text,
			`(true || `+text+`) && `+text, `false && `+text+` || `+text, `true && (false || `+text+`)`, `if true || `+text+` then `+text+` else 1`,
		)
	}
}

// The second one of && and || is looked at just where the first one decides nothing, and then must be a truth.
func TestP1301SecondIsNoTruth(t *testing.T) {
	for _, text := range []string{`1`, `"true"`, `principal`, `[true]`, `[]`, `principal.l`, `resource.b`} {
		checkFalse(t, `false && `+text, `false && `+text+` && `+text)
		checkTrue(t, `true || `+text, `true || `+text+` || `+text)
		checkErrs(t, api.ErrType, `true && `+text, `false || `+text, text+` && true`, text+` && false`, text+` || true`, text+` || false`, `true && true && `+text, `false || false || `+text, `if `+text+` then 1 else 1`)
	}
}

// Where the first one is no truth, the second one, whichever way it errs, is not looked at.
func TestP1301FirstIsNoTruth(t *testing.T) {
	for text := range bad() {
		checkErrs(t, api.ErrType, `1 && `+text, `1 || `+text, `principal && `+text, `[] || `+text, `"" && `+text, `if 1 then `+text+` else `+text, `if [true] then `+text+` else 1`)
	}
}

func TestP1301TablesOfTruths(t *testing.T) {
	checkTrue(t, `true && true`, `true || true`, `true || false`, `false || true`, `!false`, `!!true`, `true && true && true`, `false || false || true`, `false && true || true`, `true || true && false`)
	checkFalse(t, `true && false`, `false && true`, `false && false`, `false || false`, `!true`, `true && true && false`, `(true || true) && false`, `false || true && false`)
	checkTexts(t, map[string]string{
		`if true then 1 else 2`: `1`, `if false then 1 else 2`: `2`, `if !true then "a" else [1]`: `[1]`, `if true then principal else 5`: `A::"a"`,
		`if false then 1 else if true then 2 else 3`: `2`, `if if true then false else true then 1 else 2`: `2`, `1 + (if principal.b then 1 else 2)`: `2`, `if A::"b".b then 1 else []`: `[]`,
	})
}
