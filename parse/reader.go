package parse

import (
	"slices"

	"chancel/api"
	"chancel/lex"
)

// maxList is how many a list of a schema or an entity may have as it is read.
const maxList = 20

// reader reads tokens from the left. Where one stands that may not, it is stuck, and has nothing left: so every rule comes to its end, and what the rules made counts for nothing.
type reader struct {
	rest  []lex.Token
	stuck bool
}

func (r *reader) fail() {
	r.rest, r.stuck = nil, true
}

// peek tells the token that stands so many places ahead; one of no kind, if there is none.
func (r *reader) peek(places int) lex.Token {
	if places < len(r.rest) {
		return r.rest[places]
	}
	return lex.Token{}
}

// take reads the next token, if it is this one.
func (r *reader) take(kind int, text string) bool {
	t := r.peek(0)
	if t.Kind != kind || t.Text != text {
		return false
	}
	r.rest = r.rest[1:]
	return true
}

func (r *reader) sign(text string) bool {
	return r.take(lex.Sign, text)
}

func (r *reader) word(text string) bool {
	return r.take(lex.Name, text)
}

func (r *reader) needSign(text string) {
	if !r.sign(text) {
		r.fail()
	}
}

func (r *reader) needWord(text string) {
	if !r.word(text) {
		r.fail()
	}
}

// need reads the next token, which must be of this kind.
func (r *reader) need(kind int) lex.Token {
	t := r.peek(0)
	if t.Kind != kind {
		r.fail()
		return lex.Token{}
	}
	r.rest = r.rest[1:]
	return t
}

func (r *reader) name() string {
	return r.need(lex.Name).Text
}

func (r *reader) str() string {
	return r.need(lex.Str).Text
}

func (r *reader) long() int64 {
	return r.need(lex.Long).N
}

// atUid tells whether a uid begins here: a name alone may be many things, so the sign behind it is asked.
func (r *reader) atUid() bool {
	behind := r.peek(1)
	return r.peek(0).Kind == lex.Name && behind.Kind == lex.Sign && behind.Text == "::"
}

func (r *reader) uid() api.Uid {
	var u api.Uid
	u.Type = r.name()
	r.needSign("::")
	u.Id = r.str()
	return u
}

// listOf reads one or more, parted by commas.
func listOf[T any](r *reader, one func(*reader) T) []T {
	l := []T{one(r)}
	for r.sign(",") {
		l = append(l, one(r))
	}
	return l
}

// listUpTo reads any number, parted by commas, and the sign that closes them.
func listUpTo[T any](r *reader, one func(*reader) T, end string) []T {
	if r.sign(end) {
		return nil
	}
	l := listOf(r, one)
	r.needSign(end)
	return l
}

// listBehindIn reads the parents of a kind or an entity, if there are any.
func listBehindIn[T any](r *reader, one func(*reader) T) []T {
	if !r.word("in") {
		return nil
	}
	return listOf(r, one)
}

// checkCounts tells whether lists of so many may be.
func checkCounts(counts []int) api.Errno {
	if slices.ContainsFunc(counts, func(n int) bool { return n > maxList }) {
		return api.ErrMany
	}
	return api.OK
}
