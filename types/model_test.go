package types_test

import (
	"slices"
	"strings"

	"chancel/api"
	"chancel/types"
)

// model tells the promises once more, with types as words (those of typeOf).
type model struct {
	s   api.Schema
	env types.Env
}

func (m model) isKind(name string) bool {
	return slices.ContainsFunc(m.s.Kinds, func(k api.Kind) bool { return k.Name == name })
}

func (m model) isAction(name string) bool {
	return slices.ContainsFunc(m.s.Actions, func(a api.Action) bool { return a.Name == name })
}

func (m model) isUid(u api.Uid) bool {
	return m.isKind(u.Type) || u.Type == "Action" && m.isAction(u.Id)
}

// word tells a type as one.
func word(t api.Type) string {
	base := []string{"", "Bool", "Long", "String", t.Name}
	if t.Kind == 5 {
		return "Set " + base[t.Of]
	}
	return base[t.Kind]
}

func isEntity(word string) bool {
	return !slices.Contains([]string{"Bool", "Long", "String"}, word) && !strings.HasPrefix(word, "Set ")
}

// shape is what an operation asks for where it does not ask for the names of entities.
func shape(word string) string {
	base, isSet := strings.CutPrefix(word, "Set ")
	if isEntity(base) {
		base = "Uid"
	}
	if isSet {
		return "Set " + base
	}
	return base
}

func (m model) of(e api.Expr) (string, api.Errno) {
	var kids, shapes []string
	for _, kid := range e.Kids {
		x, err := m.of(kid)
		if err != api.OK {
			return "", err
		}
		kids, shapes = append(kids, x), append(shapes, shape(x))
	}
	alike := len(kids) > 0 && len(slices.Compact(slices.Clone(kids))) == 1
	switch e.Op {
	case api.OBool, api.OLong, api.OStr:
		return []string{"", "Bool", "Long", "String"}[e.Op], api.OK
	case api.OUid:
		if !m.isUid(e.U) {
			return "", api.ErrName
		}
		return e.U.Type, api.OK
	case api.OVar:
		return map[string]string{"principal": m.env.Principal, "action": "Action", "resource": m.env.Resource}[e.S], api.OK
	case api.OSet:
		if !alike || strings.HasPrefix(kids[0], "Set ") {
			return "", api.ErrType
		}
		return "Set " + kids[0], api.OK
	case api.OGet:
		if shapes[0] != "Uid" {
			return "", api.ErrType
		}
		return m.field(kids[0], e.S)
	case api.OHolds:
		return told(kids[0] == "Set "+kids[1], "Bool")
	case api.OSame, api.OOther:
		return told(alike || shapes[0] == "Uid" && shapes[1] == "Uid", "Bool")
	case api.OIf:
		return told(kids[0] == "Bool" && kids[1] == kids[2], kids[1])
	}
	return byShape(e.Op, strings.Join(shapes, ", "))
}

// byShape are the rows that ask for shapes alone.
func byShape(op int, shapes string) (string, api.Errno) {
	switch op {
	case api.OHas:
		return told(shapes == "Uid", "Bool")
	case api.OLike:
		return told(shapes == "String", "Bool")
	case api.ONot:
		return told(shapes == "Bool", "Bool")
	case api.ONeg:
		return told(shapes == "Long", "Long")
	case api.OMul, api.OAdd, api.OSub:
		return told(shapes == "Long, Long", "Long")
	case api.OLess, api.OLeast, api.OMore, api.OMost:
		return told(shapes == "Long, Long", "Bool")
	case api.OIn:
		return told(shapes == "Uid, Uid" || shapes == "Uid, Set Uid", "Bool")
	}
	return told(shapes == "Bool, Bool", "Bool")
}

func told(is bool, word string) (string, api.Errno) {
	if !is {
		return "", api.ErrType
	}
	return word, api.OK
}

func (m model) field(kind, name string) (string, api.Errno) {
	for _, k := range m.s.Kinds {
		for _, f := range k.Fields {
			if k.Name == kind && f.Name == name {
				return word(f.Type), api.OK
			}
		}
	}
	return "", api.ErrName
}

func modelEnvs(s api.Schema, p api.Policy) []types.Env {
	var l []types.Env
	for _, a := range s.Actions {
		for _, x := range a.Principals {
			for _, y := range a.Resources {
				l = append(l, types.Env{Principal: x, Action: a.Name, Resource: y})
			}
		}
	}
	return slices.DeleteFunc(l, func(e types.Env) bool {
		return p.Action.Kind != api.SAny && p.Action.U != uid("Action", e.Action) ||
			p.Principal.Kind == api.SSame && p.Principal.U.Type != e.Principal ||
			p.Resource.Kind == api.SSame && p.Resource.U.Type != e.Resource
	})
}

// modelCheck gathers all errors, in the order of the promise, and tells the first one.
func modelCheck(s api.Schema, p api.Policy) api.Errno {
	var found []api.Errno
	for _, scope := range []api.Scope{p.Principal, p.Action, p.Resource} {
		if scope.Kind != api.SAny && !(model{s: s}).isUid(scope.U) {
			found = append(found, api.ErrName)
		}
	}
	envs := modelEnvs(s, p)
	if len(envs) == 0 {
		found = append(found, api.ErrNone)
	}
	for _, env := range envs {
		for _, c := range p.Conds {
			switch x, err := (model{s, env}).of(c.E); {
			case err != api.OK:
				found = append(found, err)
			case x != "Bool":
				found = append(found, api.ErrType)
			}
		}
	}
	return append(found, api.OK)[0]
}
