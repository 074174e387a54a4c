package parse

import (
	"cmp"
	"slices"

	"chancel/api"
)

func (r *reader) schema() api.Schema {
	var s api.Schema
	for {
		switch {
		case r.word("entity"):
			s.Kinds = append(s.Kinds, r.kind())
		case r.word("action"):
			s.Actions = append(s.Actions, r.act())
		default:
			return s
		}
	}
}

// kind reads one, behind its first word.
func (r *reader) kind() api.Kind {
	var k api.Kind
	k.Name = r.name()
	k.Parents = listBehindIn(r, (*reader).name)
	r.needSign("{")
	k.Fields = listUpTo(r, (*reader).field, "}")
	r.needSign(";")
	return k
}

func (r *reader) field() api.Field {
	var f api.Field
	f.Name = r.name()
	r.needSign(":")
	f.Type = r.fieldType()
	return f
}

func (r *reader) fieldType() api.Type {
	name := r.name()
	// Without the sign it is a kind of that name.
	if name != "Set" || !r.sign("<") {
		return baseOf(name)
	}
	of := baseOf(r.name())
	r.needSign(">")
	return api.Type{Kind: api.TSet, Of: of.Kind, Name: of.Name}
}

func baseOf(name string) api.Type {
	switch name {
	case "Bool":
		return api.Type{Kind: api.TBool}
	case "Long":
		return api.Type{Kind: api.TLong}
	case "String":
		return api.Type{Kind: api.TStr}
	}
	return api.Type{Kind: api.TUid, Name: name}
}

// act reads one, behind its first word.
func (r *reader) act() api.Action {
	var a api.Action
	a.Name = r.name()
	r.needSign(":")
	a.Principals = listOf(r, (*reader).name)
	r.needSign("->")
	a.Resources = listOf(r, (*reader).name)
	r.needSign(";")
	return a
}

func finishSchema(s *api.Schema) api.Errno {
	if err := checkCounts(countsOfSchema(*s)); err != api.OK {
		return err
	}
	slices.SortStableFunc(s.Kinds, func(a, b api.Kind) int { return cmp.Compare(a.Name, b.Name) })
	slices.SortStableFunc(s.Actions, func(a, b api.Action) int { return cmp.Compare(a.Name, b.Name) })
	for _, k := range s.Kinds {
		slices.SortStableFunc(k.Fields, func(a, b api.Field) int { return cmp.Compare(a.Name, b.Name) })
	}
	return api.OK
}

func countsOfSchema(s api.Schema) []int {
	counts := []int{len(s.Kinds), len(s.Actions)}
	for _, k := range s.Kinds {
		counts = append(counts, len(k.Parents), len(k.Fields))
	}
	for _, a := range s.Actions {
		counts = append(counts, len(a.Principals), len(a.Resources))
	}
	return counts
}
