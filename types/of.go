package types

import (
	"chancel/api"
	"chancel/schema"
)

// Of tells the type of a tree in an environment.
func Of(s api.Schema, env Env, e api.Expr) (api.Type, api.Errno) {
	kids := make([]api.Type, 0, len(e.Kids))
	for _, kid := range e.Kids {
		t, err := Of(s, env, kid)
		if err != api.OK {
			return api.Type{}, err
		}
		kids = append(kids, t)
	}
	return ofNode(s, env, e, kids)
}

// ofNode tells the type of a node whose kids are of these types. One that has not as many as its operation is no tree of the language: ErrForm, as parse.Check calls it.
func ofNode(s api.Schema, env Env, e api.Expr, kids []api.Type) (api.Type, api.Errno) {
	if e.Op == api.OSet {
		return ofSet(kids)
	}
	switch len(kids) {
	case 0:
		return ofLeaf(s, env, e)
	case 1:
		return ofOne(s, e, kids[0])
	case 2:
		return ofTwo(e.Op, kids[0], kids[1])
	case 3:
		return ofThree(e.Op, kids[0], kids[1], kids[2])
	}
	return api.Type{}, api.ErrForm
}

func ofLeaf(s api.Schema, env Env, e api.Expr) (api.Type, api.Errno) {
	switch e.Op {
	case api.OBool:
		return api.Type{Kind: api.TBool}, api.OK
	case api.OLong:
		return api.Type{Kind: api.TLong}, api.OK
	case api.OStr:
		return api.Type{Kind: api.TStr}, api.OK
	case api.OUid:
		return ofEntity(e.U.Type, isNamed(s, e.U))
	case api.OVar:
		return ofVar(env, e.S)
	}
	return api.Type{}, api.ErrForm
}

// ofEntity tells the type of entities of that name, if there is one.
func ofEntity(name string, is bool) (api.Type, api.Errno) {
	if !is {
		return api.Type{}, api.ErrName
	}
	return api.Type{Kind: api.TUid, Name: name}, api.OK
}

func ofVar(env Env, name string) (api.Type, api.Errno) {
	switch name {
	case "principal":
		return ofEntity(env.Principal, true)
	case "action":
		return ofEntity(typeOfActions, true)
	case "resource":
		return ofEntity(env.Resource, true)
	}
	return ofEntity("", false)
}

func ofSet(kids []api.Type) (api.Type, api.Errno) {
	if len(kids) == 0 || kids[0].Kind == api.TSet {
		return api.Type{}, api.ErrType
	}
	for _, kid := range kids {
		if kid != kids[0] {
			return api.Type{}, api.ErrType
		}
	}
	return api.Type{Kind: api.TSet, Of: kids[0].Kind, Name: kids[0].Name}, api.OK
}

func ofOne(s api.Schema, e api.Expr, kid api.Type) (api.Type, api.Errno) {
	switch e.Op {
	case api.OGet:
		if kid.Kind != api.TUid {
			return api.Type{}, api.ErrType
		}
		return ofField(s, kid.Name, e.S)
	case api.OHas:
		return where(kid.Kind == api.TUid, api.TBool)
	case api.OLike:
		return where(kid.Kind == api.TStr, api.TBool)
	case api.ONot:
		return where(kid.Kind == api.TBool, api.TBool)
	case api.ONeg:
		return where(kid.Kind == api.TLong, api.TLong)
	}
	return api.Type{}, api.ErrForm
}

// ofField tells the type of a field of a kind's. The type of actions is no kind, so it has none.
func ofField(s api.Schema, kind, name string) (api.Type, api.Errno) {
	k, is := schema.Kind(s, kind)
	if !is {
		return api.Type{}, api.ErrName
	}
	t, is := schema.Field(k, name)
	if !is {
		return api.Type{}, api.ErrName
	}
	return t, api.OK
}

func ofTwo(op int, a, b api.Type) (api.Type, api.Errno) {
	answer := api.TBool
	switch op {
	case api.OMul, api.OAdd, api.OSub:
		answer = api.TLong
		// They ask of their kids what comparisons of numbers ask.
		fallthrough
	case api.OLess, api.OLeast, api.OMore, api.OMost:
		return where(a.Kind == api.TLong && b.Kind == api.TLong, answer)
	case api.OSame, api.OOther:
		return where(a == b || a.Kind == api.TUid && b.Kind == api.TUid, answer)
	case api.OIn:
		return where(a.Kind == api.TUid && (b.Kind == api.TUid || b.Kind == api.TSet && b.Of == api.TUid), answer)
	case api.OHolds:
		return where(a.Kind == api.TSet && b == api.Type{Kind: a.Of, Name: a.Name}, answer)
	case api.OAnd, api.OOr:
		return where(a.Kind == api.TBool && b.Kind == api.TBool, answer)
	}
	return api.Type{}, api.ErrForm
}

func ofThree(op int, cond, then, other api.Type) (api.Type, api.Errno) {
	switch {
	case op != api.OIf:
		return api.Type{}, api.ErrForm
	case cond.Kind != api.TBool || then != other:
		return api.Type{}, api.ErrType
	}
	return then, api.OK
}

// where tells a type of truths or numbers, if the kids are of the types that are asked for.
func where(fits bool, kind int) (api.Type, api.Errno) {
	if !fits {
		return api.Type{}, api.ErrType
	}
	return api.Type{Kind: kind}, api.OK
}
