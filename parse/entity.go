package parse

import (
	"cmp"
	"slices"

	"chancel/api"
	"chancel/lex"
	"chancel/value"
)

func (r *reader) entity() api.Entity {
	var e api.Entity
	e.U = r.uid()
	e.Parents = listBehindIn(r, (*reader).uid)
	r.needSign("{")
	e.Attrs = listUpTo(r, (*reader).attr, "}")
	r.needSign(";")
	return e
}

func (r *reader) attr() api.Attr {
	var a api.Attr
	a.Name = r.name()
	r.needSign(":")
	a.V = r.lit()
	return a
}

// lit reads a value; a set has its elements as they stand, till finishEntity makes one of them.
func (r *reader) lit() api.Value {
	if r.sign("[") {
		return api.Value{Kind: api.VSet, L: listUpTo(r, (*reader).one, "]")}
	}
	return r.one()
}

func (r *reader) one() api.Value {
	switch {
	case r.atUid():
		return api.Value{Kind: api.VUid, U: r.uid()}
	case r.sign("-"):
		return api.Value{Kind: api.VLong, N: -r.long()}
	}
	switch r.peek(0).Kind {
	case lex.Long:
		return api.Value{Kind: api.VLong, N: r.long()}
	case lex.Str:
		return api.Value{Kind: api.VStr, S: r.str()}
	}
	return r.truth()
}

func (r *reader) truth() api.Value {
	var v api.Value
	switch r.name() {
	case "true":
		v.B = true
		fallthrough
	case "false":
		v.Kind = api.VBool
	default:
		r.fail()
	}
	return v
}

func finishEntity(e *api.Entity) api.Errno {
	if err := checkCounts(countsOfEntity(*e)); err != api.OK {
		return err
	}
	// Ahead of the sorting: of several sets that may not be the first one of the text is told.
	if err := makeSets(e.Attrs); err != api.OK {
		return err
	}
	slices.SortStableFunc(e.Attrs, func(a, b api.Attr) int { return cmp.Compare(a.Name, b.Name) })
	slices.SortFunc(e.Parents, compareUids)
	e.Parents = slices.Compact(e.Parents)
	return api.OK
}

// countsOfEntity tells how many stand in each list of the text, doubles too.
func countsOfEntity(e api.Entity) []int {
	counts := []int{len(e.Parents), len(e.Attrs)}
	for _, a := range e.Attrs {
		counts = append(counts, len(a.V.L))
	}
	return counts
}

func makeSets(l []api.Attr) api.Errno {
	for i, a := range l {
		if a.V.Kind != api.VSet {
			continue
		}
		set, err := value.Set(a.V.L...)
		if err != api.OK {
			return err
		}
		l[i].V = set
	}
	return api.OK
}

func compareUids(a, b api.Uid) int {
	switch {
	case value.LessUid(a, b):
		return -1
	case value.LessUid(b, a):
		return 1
	}
	return 0
}
