// Package copies: things as new memory. A copy shares nothing with what it was made of, its lists have no room to spare, and no two of them share any, though those did that it was made of.
package copies

import "chancel/api"

// List copies a list by itself: lists that its elements have are still shared.
func List[T any](l []T) []T {
	if len(l) == 0 {
		return nil
	}
	own := make([]T, len(l))
	copy(own, l)
	return own
}

// each copies a list, and all that its elements have.
func each[T any](l []T, one func(T) T) []T {
	own := List(l)
	for i, e := range own {
		own[i] = one(e)
	}
	return own
}

// Schema copies one.
func Schema(s api.Schema) api.Schema {
	return api.Schema{Kinds: each(s.Kinds, Kind), Actions: each(s.Actions, Action)}
}

// Kind copies one.
func Kind(k api.Kind) api.Kind {
	k.Parents, k.Fields = List(k.Parents), List(k.Fields)
	return k
}

// Action copies one.
func Action(a api.Action) api.Action {
	a.Principals, a.Resources = List(a.Principals), List(a.Resources)
	return a
}

// Policy copies one.
func Policy(p api.Policy) api.Policy {
	p.Conds = each(p.Conds, cond)
	return p
}

func cond(c api.Cond) api.Cond {
	c.E = Expr(c.E)
	return c
}

// Expr copies a tree.
func Expr(e api.Expr) api.Expr {
	e.Kids = each(e.Kids, Expr)
	return e
}

// Entities copies a row of them.
func Entities(l []api.Entity) []api.Entity {
	return each(l, Entity)
}

// Entity copies one.
func Entity(e api.Entity) api.Entity {
	e.Parents = List(e.Parents)
	e.Attrs = each(e.Attrs, attr)
	return e
}

func attr(a api.Attr) api.Attr {
	a.V = Value(a.V)
	return a
}

// Value copies the lists of every kind, and sets within sets: values that may not be are copied as they are, but share nothing either.
func Value(v api.Value) api.Value {
	v.L = each(v.L, Value)
	return v
}
