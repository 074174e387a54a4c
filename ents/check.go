package ents

import (
	"cmp"

	"chancel/api"
	"chancel/lex"
	"chancel/value"
)

// Check tells whether entities may stand so.
func Check(l []api.Entity) api.Errno {
	return checkRow(l, api.MaxEntities, checkEntity, lessEntity)
}

// checkRow tells the first fault of a row: too many, then of each element what is wrong with it, ahead of where it stands.
func checkRow[T any](l []T, most int, check func(T) api.Errno, less func(a, b T) bool) api.Errno {
	if len(l) > most {
		return api.ErrMany
	}
	for i, e := range l {
		if err := check(e); err != api.OK {
			return err
		}
		if i > 0 && !less(l[i-1], e) {
			return api.ErrArg
		}
	}
	return api.OK
}

func checkEntity(e api.Entity) api.Errno {
	return cmp.Or(
		checkUid(e.U),
		checkRow(e.Parents, api.MaxParents, checkUid, value.LessUid),
		checkRow(e.Attrs, api.MaxAttrs, checkAttr, lessAttr),
	)
}

func checkUid(u api.Uid) api.Errno {
	return value.Check(api.Value{Kind: api.VUid, U: u})
}

func checkAttr(a api.Attr) api.Errno {
	if !lex.Ident(a.Name) {
		return api.ErrName
	}
	return value.Check(a.V)
}

func lessEntity(a, b api.Entity) bool {
	return value.LessUid(a.U, b.U)
}

func lessAttr(a, b api.Attr) bool {
	return a.Name < b.Name
}
