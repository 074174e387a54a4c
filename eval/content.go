package eval

import "chancel/api"

// content is what a node comes to: nothing of the fields of other kinds comes along.
type content interface {
	value() api.Value
}

type (
	truth bool
	long  int64
	str   string
	uid   api.Uid
	set   []api.Value // a list of its own, so that it may be answered
)

func (b truth) value() api.Value { return api.Value{Kind: api.VBool, B: bool(b)} }
func (n long) value() api.Value  { return api.Value{Kind: api.VLong, N: int64(n)} }
func (s str) value() api.Value   { return api.Value{Kind: api.VStr, S: string(s)} }
func (u uid) value() api.Value   { return api.Value{Kind: api.VUid, U: api.Uid(u)} }
func (l set) value() api.Value   { return api.Value{Kind: api.VSet, L: l} }

// contentOf tells what stands in a value that was handed in. One of no kind is told as value.Check tells it.
func contentOf(v api.Value) (content, api.Errno) {
	switch v.Kind {
	case api.VBool:
		return truth(v.B), api.OK
	case api.VLong:
		return long(v.N), api.OK
	case api.VStr:
		return str(v.S), api.OK
	case api.VUid:
		return uid(v.U), api.OK
	case api.VSet:
		return ownSet(v.L), api.OK
	}
	return nil, api.ErrKind
}

// ownSet copies elements. None may have a list: one that has is not gone into, since it may hold itself, and its list is not handed on.
func ownSet(l []api.Value) set {
	own := make(set, len(l))
	copy(own, l)
	for i := range own {
		own[i].L = nil
	}
	return own
}

// where tells a truth, if the kids are of the kinds that are asked for.
func where(fits, b bool) (content, api.Errno) {
	if !fits {
		return nil, api.ErrType
	}
	return truth(b), api.OK
}

// number tells what a sum of num's comes to.
func number(n int64, err api.Errno) (content, api.Errno) {
	if err != api.OK {
		return nil, err
	}
	return long(n), api.OK
}
