package value

import (
	"unicode/utf8"

	"chancel/api"
	"chancel/names"
	"chancel/text"
)

// Check tells whether a value may be.
func Check(v api.Value) api.Errno {
	c := contentOf(v)
	if _, none := c.(nothing); none {
		return api.ErrKind
	}
	if hasMore(v, c.value()) {
		return api.ErrArg
	}
	return checkContent(c)
}

// hasMore tells whether v has more than its kind's: bare is the same value with nothing in the other fields. An empty list is none.
func hasMore(v, bare api.Value) bool {
	return v.B != bare.B || v.N != bare.N || v.S != bare.S || v.U != bare.U || len(v.L) != len(bare.L)
}

// checkContent tells whether what stands in a value may stand there; truths and numbers always may.
func checkContent(c content) api.Errno {
	switch c := c.(type) {
	case str:
		return checkText(string(c))
	case uid:
		return checkUid(api.Uid(c))
	case elements:
		return checkElements(c)
	}
	return api.OK
}

func checkText(s string) api.Errno {
	if err := text.Check(s); err != api.OK {
		return err
	}
	if utf8.RuneCountInString(s) > api.MaxString {
		return api.ErrLong
	}
	return api.OK
}

func checkUid(u api.Uid) api.Errno {
	if !names.Is(u.Type) {
		return api.ErrName
	}
	return checkText(u.Id)
}

func checkElements(l []api.Value) api.Errno {
	if len(l) > api.MaxSet {
		return api.ErrMany
	}
	for i, e := range l {
		// Ahead of Check, which thus never goes into a set within a set.
		if !mayStandBy(e, l[0]) {
			return api.ErrType
		}
		if err := Check(e); err != api.OK {
			return err
		}
		if i > 0 && !Less(l[i-1], e) {
			return api.ErrArg
		}
	}
	return api.OK
}
