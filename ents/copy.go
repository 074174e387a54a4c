package ents

import "chancel/api"

// copyRow lays rows of entities one behind the other, in room that is made once, for all of them: what is answered has none to spare.
func copyRow(rows ...[]api.Entity) []api.Entity {
	count := 0
	for _, l := range rows {
		count += len(l)
	}
	all := make([]api.Entity, count)
	room := all
	for _, l := range rows {
		room = room[copy(room, l):]
	}
	for i, e := range all {
		all[i] = copyEntity(e)
	}
	return all
}

func copyEntity(e api.Entity) api.Entity {
	e.Parents = copyList(e.Parents)
	e.Attrs = copyList(e.Attrs)
	for i, a := range e.Attrs {
		e.Attrs[i].V = copyValue(a.V)
	}
	return e
}

// copyValue copies the lists of every kind, and sets within sets: values that may not be are answered as they are, but share nothing either.
func copyValue(v api.Value) api.Value {
	v.L = copyList(v.L)
	for i, e := range v.L {
		v.L[i] = copyValue(e)
	}
	return v
}

// copyList copies a list by itself: lists that its elements have are still shared, and copied by whoever knows of them.
func copyList[T any](l []T) []T {
	if len(l) == 0 {
		return nil
	}
	own := make([]T, len(l))
	copy(own, l)
	return own
}
