package fit

import (
	"cmp"
	"slices"

	"chancel/api"
)

// checkAttrs tells whether attributes are just the fields, all names ahead of the first value.
func checkAttrs(s api.Schema, fields []api.Field, attrs []api.Attr) api.Errno {
	fields, attrs = byNames(fields, nameOfField), byNames(attrs, nameOfAttr)
	if !slices.EqualFunc(fields, attrs, haveOneName) {
		return api.ErrName
	}
	for i, a := range attrs {
		if !Value(s, fields[i].Type, a.V) {
			return api.ErrType
		}
	}
	return api.OK
}

// byNames copies a list ahead of sorting it: the promise asks which names there are, not where they stand, and what was handed in stays as it is.
func byNames[T any](l []T, name func(T) string) []T {
	own := make([]T, len(l))
	copy(own, l)
	slices.SortStableFunc(own, func(a, b T) int { return cmp.Compare(name(a), name(b)) })
	return own
}

func nameOfField(f api.Field) string { return f.Name }

func nameOfAttr(a api.Attr) string { return a.Name }

func haveOneName(f api.Field, a api.Attr) bool { return f.Name == a.Name }

// checkParents tells of each parent whether it may be one, and is there, ahead of the next.
func checkParents(l []api.Entity, kinds []string, parents []api.Uid) api.Errno {
	for _, p := range parents {
		if !slices.Contains(kinds, p.Type) {
			return api.ErrType
		}
		if !isIn(l, p) {
			return api.ErrGone
		}
	}
	return api.OK
}

// isIn asks for the uid alone, where ents.Find would copy all that the entity has.
func isIn(l []api.Entity, u api.Uid) bool {
	return slices.ContainsFunc(l, func(e api.Entity) bool { return e.U == u })
}
