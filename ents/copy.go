package ents

import (
	"chancel/api"
	"chancel/copies"
)

// copyRow lays rows of entities one behind the other, in room that is made once, for all of them: what is answered has none to spare.
func copyRow(rows ...[]api.Entity) []api.Entity {
	count := 0
	for _, l := range rows {
		count += len(l)
	}
	all := make([]api.Entity, count)
	room := all
	for _, l := range rows {
		room = room[copy(room, l):]
	}
	for i, e := range all {
		all[i] = copies.Entity(e)
	}
	return all
}
