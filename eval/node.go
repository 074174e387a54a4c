package eval

import (
	"slices"

	"chancel/above"
	"chancel/api"
	"chancel/num"
	"chancel/text"
	"chancel/value"
)

// ofNode tells what a node comes to, whose kids all came to something.
func (w world) ofNode(e api.Expr, kids []content) (content, api.Errno) {
	if e.Op == api.OSet {
		return ofSet(kids)
	}
	switch len(kids) {
	case 0:
		return w.ofLeaf(e)
	case 1:
		return w.ofOne(e, kids[0])
	case 2:
		return w.ofTwo(e.Op, kids[0], kids[1])
	}
	return nil, api.ErrForm
}

func (w world) ofLeaf(e api.Expr) (content, api.Errno) {
	switch e.Op {
	case api.OBool:
		return truth(e.B), api.OK
	case api.OLong:
		return long(e.N), api.OK
	case api.OStr:
		return str(e.S), api.OK
	case api.OUid:
		return uid(e.U), api.OK
	case api.OVar:
		return w.ofVar(e.S)
	}
	return nil, api.ErrForm
}

func (w world) ofVar(name string) (content, api.Errno) {
	switch name {
	case "principal":
		return uid(w.r.Principal), api.OK
	case "action":
		return uid(w.r.Action), api.OK
	case "resource":
		return uid(w.r.Resource), api.OK
	}
	return nil, api.ErrName
}

func ofSet(kids []content) (content, api.Errno) {
	l := make([]api.Value, 0, len(kids))
	for _, kid := range kids {
		l = append(l, kid.value())
	}
	v, err := value.Set(l...)
	if err != api.OK {
		return nil, err
	}
	return set(v.L), api.OK
}

func (w world) ofOne(e api.Expr, kid content) (content, api.Errno) {
	switch e.Op {
	case api.OGet:
		return w.ofGet(kid, e.S)
	case api.OHas:
		_, err := w.ofGet(kid, e.S)
		return where(err != api.ErrType, err == api.OK)
	case api.OLike:
		s, is := kid.(str)
		return where(is, text.Like(string(s), e.S))
	case api.ONot:
		b, is := kid.(truth)
		return where(is, !bool(b))
	case api.ONeg:
		n, is := kid.(long)
		if !is {
			return nil, api.ErrType
		}
		return number(num.Neg(int64(n)))
	}
	return nil, api.ErrForm
}

// ofGet looks for the attribute where it stands: ents.Find and ents.Get would copy all that the entity has, and a list that holds itself has no end.
func (w world) ofGet(c content, name string) (content, api.Errno) {
	u, is := c.(uid)
	if !is {
		return nil, api.ErrType
	}
	at := slices.IndexFunc(w.l, func(e api.Entity) bool { return e.U == api.Uid(u) })
	if at < 0 {
		return nil, api.ErrGone
	}
	attrs := w.l[at].Attrs
	at = slices.IndexFunc(attrs, func(a api.Attr) bool { return a.Name == name })
	if at < 0 {
		return nil, api.ErrName
	}
	return contentOf(attrs[at].V)
}

func (w world) ofTwo(op int, a, b content) (content, api.Errno) {
	switch op {
	case api.OHolds:
		s, is := a.(set)
		return where(is, value.Holds(s.value(), b.value()))
	case api.OSame:
		return truth(value.Same(a.value(), b.value())), api.OK
	case api.OOther:
		return truth(!value.Same(a.value(), b.value())), api.OK
	case api.OIn:
		return w.ofIn(a, b)
	}
	return ofNumbers(op, a, b)
}

func (w world) ofIn(a, b content) (content, api.Errno) {
	u, isOne := a.(uid)
	l, areSome := uidsOf(b)
	if !isOne || !areSome {
		return nil, api.ErrType
	}
	isIn := func(x api.Uid) bool { return above.In(w.l, api.Uid(u), x) }
	return truth(slices.ContainsFunc(l, isIn)), api.OK
}

// uidsOf tells the uid that stands there, or those of a set, and whether nothing else does. An empty set has none.
func uidsOf(c content) ([]api.Uid, bool) {
	switch c := c.(type) {
	case uid:
		return []api.Uid{api.Uid(c)}, true
	case set:
		var l []api.Uid
		for _, v := range c {
			if v.Kind != api.VUid {
				return nil, false
			}
			l = append(l, v.U)
		}
		return l, true
	}
	return nil, false
}

func ofNumbers(op int, a, b content) (content, api.Errno) {
	x, isOne := a.(long)
	y, isOther := b.(long)
	if !isOne || !isOther {
		return nil, api.ErrType
	}
	switch op {
	case api.OMul:
		return number(num.Mul(int64(x), int64(y)))
	case api.OAdd:
		return number(num.Add(int64(x), int64(y)))
	case api.OSub:
		return number(num.Sub(int64(x), int64(y)))
	case api.OLess:
		return truth(x < y), api.OK
	case api.OLeast:
		return truth(x <= y), api.OK
	case api.OMore:
		return truth(x > y), api.OK
	case api.OMost:
		return truth(x >= y), api.OK
	}
	return nil, api.ErrForm
}
