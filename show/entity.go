package show

import (
	"chancel/api"
	"chancel/value"
)

// Entity writes one.
func Entity(e api.Entity) string {
	return Uid(e.U) + behindIn(each(e.Parents, Uid)) + inBraces(each(e.Attrs, attr))
}

func attr(a api.Attr) string {
	return a.Name + ": " + value.Text(a.V)
}
