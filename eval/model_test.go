package eval_test

import (
	"math/big"
	"reflect"
	"regexp"
	"slices"
	"strconv"
	"strings"

	"chancel/api"
	"chancel/value"
)

// model tells P1301 once more: a tree comes to a bool, a number without bounds, a string, a uid, or members; errors are panics.
type model struct {
	l []api.Entity
	r api.Request
}

// members of a set stand by their texts, which differ where they do.
type members map[string]any

// run tells what a tree comes to, as textOf has it.
func (m model) run(e api.Expr) (text string, err api.Errno) {
	defer func() {
		if is, ok := recover().(api.Errno); ok {
			text, err = "", is
		}
	}()
	return textOf(m.of(e)), api.OK
}

// textOf is a value's text, but for the order of members.
func textOf(v any) string {
	switch v := v.(type) {
	case bool:
		return strconv.FormatBool(v)
	case *big.Int:
		return v.String()
	case string:
		return strconv.Quote(v)
	case api.Uid:
		return v.Type + "::" + strconv.Quote(v.Id)
	}
	var l []string
	for text := range v.(members) {
		l = append(l, text)
	}
	slices.Sort(l)
	return "{" + strings.Join(l, " ") + "}"
}

// modelText is textOf what was answered.
func modelText(v api.Value) string { return textOf(plain(v)) }

// plain is a value as the model has it.
func plain(v api.Value) any {
	switch v.Kind {
	case api.VBool:
		return v.B
	case api.VLong:
		return big.NewInt(v.N)
	case api.VStr:
		return v.S
	case api.VUid:
		return v.U
	}
	all := members{}
	for _, x := range v.L {
		all[value.Text(x)] = plain(x)
	}
	return all
}

// is takes a value of a kind, or tells that it is of another one.
func is[T any](v any) T {
	x, ok := v.(T)
	if !ok {
		panic(api.ErrType)
	}
	return x
}

// within tells that a number is beyond its bounds, if it is.
func within(n *big.Int) any {
	if !n.IsInt64() {
		panic(api.ErrOver)
	}
	return n
}

func (m model) of(e api.Expr) any {
	switch e.Op {
	case api.OBool:
		return e.B
	case api.OLong:
		return big.NewInt(e.N)
	case api.OStr:
		return e.S
	case api.OUid:
		return e.U
	case api.OVar:
		return map[string]api.Uid{"principal": m.r.Principal, "action": m.r.Action, "resource": m.r.Resource}[e.S]
	case api.OAnd:
		return is[bool](m.of(e.Kids[0])) && is[bool](m.of(e.Kids[1]))
	case api.OOr:
		return is[bool](m.of(e.Kids[0])) || is[bool](m.of(e.Kids[1]))
	case api.OIf:
		if is[bool](m.of(e.Kids[0])) {
			return m.of(e.Kids[1])
		}
		return m.of(e.Kids[2])
	}
	var kids []any
	for _, kid := range e.Kids {
		kids = append(kids, m.of(kid))
	}
	return m.ofKids(e, kids)
}

func (m model) ofKids(e api.Expr, kids []any) any {
	switch e.Op {
	case api.OSet:
		return ofMembers(kids)
	case api.OGet:
		all, there := m.attrs(is[api.Uid](kids[0]))
		if !there {
			panic(api.ErrGone)
		}
		if v, has := all[e.S]; has {
			return v
		}
		panic(api.ErrName)
	case api.OHas:
		all, _ := m.attrs(is[api.Uid](kids[0]))
		_, has := all[e.S]
		return has
	case api.OHolds:
		_, has := is[members](kids[0])[textOf(kids[1])]
		return has
	case api.OLike:
		pattern := strings.ReplaceAll(regexp.QuoteMeta(e.S), `\*`, `.*`)
		return regexp.MustCompile(`(?s)^` + pattern + `$`).MatchString(is[string](kids[0]))
	case api.ONot:
		return !is[bool](kids[0])
	case api.ONeg:
		return within(new(big.Int).Neg(is[*big.Int](kids[0])))
	case api.OSame:
		return textOf(kids[0]) == textOf(kids[1])
	case api.OOther:
		return textOf(kids[0]) != textOf(kids[1])
	case api.OIn:
		return m.inAny(is[api.Uid](kids[0]), kids[1])
	}
	return ofInts(e.Op, is[*big.Int](kids[0]), is[*big.Int](kids[1]))
}

func ofInts(op int, a, b *big.Int) any {
	z, sign := new(big.Int), a.Cmp(b)
	switch op {
	case api.OMul:
		return within(z.Mul(a, b))
	case api.OAdd:
		return within(z.Add(a, b))
	case api.OSub:
		return within(z.Sub(a, b))
	case api.OLess:
		return sign < 0
	case api.OLeast:
		return sign <= 0
	case api.OMore:
		return sign > 0
	case api.OMost:
		return sign >= 0
	}
	panic(op)
}

func ofMembers(kids []any) any {
	all := members{}
	for _, kid := range kids {
		if _, isSet := kid.(members); isSet || reflect.TypeOf(kid) != reflect.TypeOf(kids[0]) {
			panic(api.ErrType)
		}
		all[textOf(kid)] = kid
	}
	if len(all) > api.MaxSet {
		panic(api.ErrMany)
	}
	return all
}

// attrs are those of an entity, by their names, and whether it is there.
func (m model) attrs(u api.Uid) (map[string]any, bool) {
	for _, e := range m.l {
		if e.U == u {
			all := map[string]any{}
			for _, a := range e.Attrs {
				all[a.Name] = plain(a.V)
			}
			return all, true
		}
	}
	return nil, false
}

// inAny tells whether one is in another one, or in one of them.
func (m model) inAny(u api.Uid, above any) bool {
	if one, ok := above.(api.Uid); ok {
		return m.in(u, one, len(m.l)+1)
	}
	in := false
	for _, x := range is[members](above) {
		in = m.in(u, is[api.Uid](x), len(m.l)+1) || in
	}
	return in
}

// in goes up so many steps at most, by each way that there is.
func (m model) in(u, above api.Uid, steps int) bool {
	if u == above || steps == 0 {
		return u == above
	}
	for _, e := range m.l {
		if e.U == u && slices.ContainsFunc(e.Parents, func(p api.Uid) bool { return m.in(p, above, steps-1) }) {
			return true
		}
	}
	return false
}
