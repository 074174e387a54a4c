package show_test

import (
	"fmt"
	"strings"
	"testing"

	"chancel/api"
	"chancel/parse"
	"chancel/show"
)

func node(op int, kids ...api.Expr) api.Expr { return api.Expr{Op: op, Kids: kids} }

func named(op int, s string, kids ...api.Expr) api.Expr { return api.Expr{Op: op, S: s, Kids: kids} }

func truth(b bool) api.Expr { return api.Expr{Op: api.OBool, B: b} }

func long(n int64) api.Expr { return api.Expr{Op: api.OLong, N: n} }

func str(s string) api.Expr { return api.Expr{Op: api.OStr, S: s} }

func uid(t, id string) api.Expr { return api.Expr{Op: api.OUid, U: api.Uid{Type: t, Id: id}} }

func variable(s string) api.Expr { return api.Expr{Op: api.OVar, S: s} }

func get(e api.Expr, s string) api.Expr { return named(api.OGet, s, e) }

func id(t, id string) api.Uid { return api.Uid{Type: t, Id: id} }

// dump tells all fields of whatever there is; no list and an empty one are the same.
func dump(x any) string {
	return strings.ReplaceAll(fmt.Sprintf("%#v", x), "(nil)", "{}")
}

// face is one of the package's calls, and the one of package parse that is its other way about.
type face[T any] struct {
	write func(T) string
	read  func(string) (T, api.Errno)
}

var (
	exprs    = face[api.Expr]{show.Expr, parse.Expr}
	policies = face[api.Policy]{show.Policy, parse.Policy}
	schemas  = face[api.Schema]{show.Schema, parse.Schema}
	entities = face[api.Entity]{show.Entity, parse.Entity}
	uids     = face[api.Uid]{show.Uid, parse.Uid}
)

// written tells whether x is written as that text, whether or not it could be read.
func (f face[T]) written(t *testing.T, x T, want string) {
	t.Helper()
	if got := f.write(x); got != want {
		t.Errorf("%s:\n%s\nwant\n%s", dump(x), got, want)
	}
}

// back tells whether what is written of x is read as x (P603), and is written as the same text again.
func (f face[T]) back(t *testing.T, x T) {
	t.Helper()
	s := f.write(x)
	got, err := f.read(s)
	if err != api.OK || dump(got) != dump(x) {
		t.Errorf("%s: %v, read as %s; want %s", s, err, dump(got), dump(x))
	}
	if again := f.write(got); again != s {
		t.Errorf("%s: written again as %s", s, again)
	}
}

// check tells whether x is written as that text, and read of it again.
func (f face[T]) check(t *testing.T, x T, want string) {
	t.Helper()
	f.written(t, x, want)
	f.back(t, x)
}

// from tells whether what is read of a text is written as another one.
func (f face[T]) from(t *testing.T, s, want string) {
	t.Helper()
	x, err := f.read(s)
	if err != api.OK {
		t.Errorf("%s: %v", s, err)
		return
	}
	f.check(t, x, want)
}

// Words that the rules of the language name.
var words = strings.Fields("permit forbid principal action resource when unless in has like if then else true false contains entity Set Bool Long String")
