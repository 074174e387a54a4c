package value

import (
	"cmp"
	"slices"
	"strconv"
	"strings"

	"chancel/api"
	"chancel/num"
	"chancel/text"
)

// content is what a value is, behind its kind: nothing of the fields of other kinds comes along.
type content interface {
	value() api.Value
	compare(o content) int // o is content of the same kind
	written() string
}

type (
	truth    bool
	long     int64
	str      string
	uid      api.Uid
	elements []api.Value
	nothing  struct{} // of a kind that is none: calls that answer no error have something to ask, too
)

// contentOf tells what stands in a value.
func contentOf(v api.Value) content {
	switch v.Kind {
	case api.VBool:
		return truth(v.B)
	case api.VLong:
		return long(v.N)
	case api.VStr:
		return str(v.S)
	case api.VUid:
		return uid(v.U)
	case api.VSet:
		return elements(v.L)
	}
	return nothing{}
}

// compare tells which of two values stands ahead: below 0 the first one, above 0 the second, 0 if they are the same.
func compare(a, b api.Value) int {
	if a.Kind != b.Kind {
		return cmp.Compare(a.Kind, b.Kind)
	}
	return contentOf(a).compare(contentOf(b))
}

// compareUids does so of uids.
func compareUids(a, b api.Uid) int {
	return cmp.Or(cmp.Compare(a.Type, b.Type), cmp.Compare(a.Id, b.Id))
}

// compareElements does so of elements of sets.
func compareElements(a, b api.Value) int {
	return compare(flat(a), flat(b))
}

// flat takes a set that stands in a set, where none may stand, as the empty one: a list may hold itself, and going into it would not end.
func flat(e api.Value) api.Value {
	if e.Kind == api.VSet {
		e.L = nil
	}
	return e
}

func (t truth) value() api.Value    { return api.Value{Kind: api.VBool, B: bool(t)} }
func (n long) value() api.Value     { return api.Value{Kind: api.VLong, N: int64(n)} }
func (s str) value() api.Value      { return api.Value{Kind: api.VStr, S: string(s)} }
func (u uid) value() api.Value      { return api.Value{Kind: api.VUid, U: api.Uid(u)} }
func (l elements) value() api.Value { return api.Value{Kind: api.VSet, L: l} }
func (nothing) value() api.Value    { return api.Value{} }

func (t truth) compare(o content) int {
	switch {
	case t == o.(truth):
		return 0
	case bool(t):
		return 1
	}
	return -1
}

func (n long) compare(o content) int { return cmp.Compare(n, o.(long)) }
func (s str) compare(o content) int  { return cmp.Compare(s, o.(str)) }
func (u uid) compare(o content) int  { return compareUids(api.Uid(u), api.Uid(o.(uid))) }

func (l elements) compare(o content) int {
	return slices.CompareFunc(l, o.(elements), compareElements)
}

func (nothing) compare(content) int { return 0 }

func (t truth) written() string { return strconv.FormatBool(bool(t)) }
func (n long) written() string  { return num.Text(int64(n)) }
func (s str) written() string   { return text.Quote(string(s)) }
func (u uid) written() string   { return u.Type + "::" + text.Quote(u.Id) }

func (l elements) written() string {
	var texts []string
	for _, e := range l {
		texts = append(texts, Text(flat(e)))
	}
	return "[" + strings.Join(texts, ", ") + "]"
}

func (nothing) written() string { return "" }
