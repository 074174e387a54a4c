package schema

import (
	"chancel/api"
	"chancel/lex"
)

// Check tells whether there may be such a schema.
func Check(s api.Schema) api.Errno {
	if len(s.Kinds) > api.MaxTypes || len(s.Actions) > api.MaxActions {
		return api.ErrMany
	}
	if err := checkKinds(s); err != api.OK {
		return err
	}
	return checkActions(s)
}

func checkKinds(s api.Schema) api.Errno {
	ahead := ""
	for _, k := range s.Kinds {
		if isTaken(k.Name) {
			return api.ErrName
		}
		if err := checkName(k.Name, ahead); err != api.OK {
			return err
		}
		if err := checkKind(s, k); err != api.OK {
			return err
		}
		ahead = k.Name
	}
	return api.OK
}

// isTaken tells whether a name means a type already.
func isTaken(name string) bool {
	switch name {
	case typeOfActions, "Bool", "Long", "String", "Set":
		return true
	}
	return false
}

// checkName tells whether it is a name, and stands behind the one ahead. Ahead of the first one is the empty text: every name is behind that.
func checkName(name, ahead string) api.Errno {
	if !lex.Ident(name) {
		return api.ErrName
	}
	if name <= ahead {
		return api.ErrIs
	}
	return api.OK
}

// checkKind checks all of a kind but its name.
func checkKind(s api.Schema, k api.Kind) api.Errno {
	if len(k.Fields) > api.MaxAttrs || len(k.Parents) > api.MaxParents {
		return api.ErrMany
	}
	if err := checkAreKinds(s, k.Parents); err != api.OK {
		return err
	}
	ahead := ""
	for _, f := range k.Fields {
		if err := checkName(f.Name, ahead); err != api.OK {
			return err
		}
		if err := checkType(s, f.Type); err != api.OK {
			return err
		}
		ahead = f.Name
	}
	return api.OK
}

// checkAreKinds tells whether each one is the name of a kind, be it ahead or behind.
func checkAreKinds(s api.Schema, names []string) api.Errno {
	for _, name := range names {
		if placeOfKind(s, name) < 0 {
			return api.ErrNone
		}
	}
	return api.OK
}

func checkType(s api.Schema, t api.Type) api.Errno {
	named := t.Kind
	switch t.Kind {
	case api.TBool, api.TLong, api.TStr, api.TUid:
		if t.Of != 0 {
			return api.ErrArg
		}
	case api.TSet:
		named = t.Of
		if api.TBool <= t.Of && t.Of <= api.TUid {
			break
		}
		// A set of what none can be of is as wrong as a kind that is none.
		fallthrough
	default:
		return api.ErrKind
	}
	return checkTypeName(s, named, t.Name)
}

// checkTypeName tells whether a type of that kind, or a set of such, may have that name: uids alone have one.
func checkTypeName(s api.Schema, kind int, name string) api.Errno {
	switch {
	case kind != api.TUid && name != "":
		return api.ErrArg
	case kind == api.TUid && placeOfKind(s, name) < 0:
		return api.ErrNone
	}
	return api.OK
}

func checkActions(s api.Schema) api.Errno {
	ahead := ""
	for _, a := range s.Actions {
		if err := checkName(a.Name, ahead); err != api.OK {
			return err
		}
		if err := checkAction(s, a); err != api.OK {
			return err
		}
		ahead = a.Name
	}
	return api.OK
}

// checkAction checks all of an action but its name.
func checkAction(s api.Schema, a api.Action) api.Errno {
	if len(a.Principals) == 0 || len(a.Resources) == 0 {
		return api.ErrForm
	}
	if len(a.Principals) > api.MaxTypes || len(a.Resources) > api.MaxTypes {
		return api.ErrMany
	}
	if err := checkAreKinds(s, a.Principals); err != api.OK {
		return err
	}
	return checkAreKinds(s, a.Resources)
}
