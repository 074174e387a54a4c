package parse_test

import (
	"fmt"
	"strings"
	"testing"

	"chancel/api"
	"chancel/parse"
)

func node(op int, kids ...api.Expr) api.Expr { return api.Expr{Op: op, Kids: kids} }

func named(op int, s string, kids ...api.Expr) api.Expr { return api.Expr{Op: op, S: s, Kids: kids} }

func truth(b bool) api.Expr { return api.Expr{Op: api.OBool, B: b} }

func long(n int64) api.Expr { return api.Expr{Op: api.OLong, N: n} }

func str(s string) api.Expr { return api.Expr{Op: api.OStr, S: s} }

func uid(t, id string) api.Expr { return api.Expr{Op: api.OUid, U: api.Uid{Type: t, Id: id}} }

func variable(s string) api.Expr { return api.Expr{Op: api.OVar, S: s} }

func get(e api.Expr, s string) api.Expr { return named(api.OGet, s, e) }

// dump tells all fields of whatever there is; no list and an empty one are the same.
func dump(x any) string {
	return strings.ReplaceAll(fmt.Sprintf("%#v", x), "(nil)", "{}")
}

// checkRead tells whether a call read s as what is wanted.
func checkRead[T any](t *testing.T, call func(string) (T, api.Errno), s string, want T) {
	t.Helper()
	if got, err := call(s); err != api.OK || dump(got) != dump(want) {
		t.Errorf("%s: %v, %s; want %s", s, err, dump(got), dump(want))
	}
}

// checkError tells whether a call answered that error for s, and nothing beside one.
func checkError[T any](t *testing.T, call func(string) (T, api.Errno), s string, want api.Errno) {
	t.Helper()
	got, err := call(s)
	if err != want {
		t.Errorf("%s: %v; want %v", s, err, want)
	}
	var none T
	if err != api.OK && fmt.Sprintf("%#v", got) != fmt.Sprintf("%#v", none) {
		t.Errorf("%s: beside an error %#v", s, got)
	}
}

func checkErrors[T any](t *testing.T, call func(string) (T, api.Errno), want api.Errno, l ...string) {
	t.Helper()
	for _, s := range l {
		checkError(t, call, s, want)
	}
}

func checkExpr(t *testing.T, s string, want api.Expr) {
	t.Helper()
	checkRead(t, parse.Expr, s, want)
	if err := parse.Check(want); err != api.OK {
		t.Errorf("%s: Check of it: %v", s, err)
	}
}

// times joins s n times.
func times(s string, n int, by string) string {
	return strings.TrimSuffix(strings.Repeat(s+by, n), by)
}
