package show

import (
	"strings"

	"chancel/api"
)

// Schema writes one, a line for each kind, and then for each action.
func Schema(s api.Schema) string {
	return strings.Join(append(each(s.Kinds, kind), each(s.Actions, action)...), "\n")
}

func kind(k api.Kind) string {
	return "entity " + k.Name + behindIn(k.Parents) + inBraces(each(k.Fields, field))
}

func field(f api.Field) string {
	return f.Name + ": " + typeOf(f.Type)
}

func typeOf(t api.Type) string {
	if t.Kind == api.TSet {
		return "Set<" + base(t.Of, t.Name) + ">"
	}
	return base(t.Kind, t.Name)
}

// base writes a type that is no set; one of no kind is nothing.
func base(of int, name string) string {
	switch of {
	case api.TBool:
		return "Bool"
	case api.TLong:
		return "Long"
	case api.TStr:
		return "String"
	case api.TUid:
		return name
	}
	return ""
}

func action(a api.Action) string {
	return "action " + a.Name + ": " + listed(a.Principals) + " -> " + listed(a.Resources) + ";"
}
