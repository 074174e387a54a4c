package copies_test

import (
	"fmt"
	"reflect"
	"strings"
	"testing"

	"chancel/api"
	"chancel/copies"
)

// span is the memory of one list, its spare room too.
type span struct {
	path       string
	begin, end uintptr
}

// spansOf tells those of all lists of a thing that have any room.
func spansOf(path string, v reflect.Value) []span {
	var all []span
	switch v.Kind() {
	case reflect.Slice:
		if v.Cap() > 0 {
			all = append(all, span{path, v.Pointer(), v.Pointer() + uintptr(v.Cap())*v.Type().Elem().Size()})
		}
		for i := range v.Len() {
			all = append(all, spansOf(fmt.Sprint(path, "/", i), v.Index(i))...)
		}
	case reflect.Struct:
		for i := range v.NumField() {
			all = append(all, spansOf(path+"."+v.Type().Field(i).Name, v.Field(i))...)
		}
	}
	return all
}

// dump tells all fields of whatever there is; no list and an empty one are the same.
func dump(x any) string {
	return strings.ReplaceAll(fmt.Sprintf("%#v", x), "(nil)", "{}")
}

// checkCopy tells whether a copy is the same, and each list of it is memory of its own.
func checkCopy[T any](t *testing.T, x T, call func(T) T) {
	t.Helper()
	own := call(x)
	if dump(own) != dump(x) {
		t.Errorf("%s; want %s", dump(own), dump(x))
	}
	those, all := spansOf("", reflect.ValueOf(x)), spansOf("", reflect.ValueOf(own))
	if len(those) == 0 || len(all) != len(those) {
		t.Errorf("%d lists; want %d", len(all), len(those))
	}
	for i, a := range all {
		for _, b := range append(those, all[:i]...) {
			if a.begin < b.end && b.begin < a.end {
				t.Errorf("%T: %s of the copy shares with %s", x, a.path, b.path)
			}
		}
	}
}

// roomy is a list with room to spare, in which others may stand.
func roomy[T any](l ...T) []T { return append(make([]T, 0, len(l)+3), l...) }

func TestCopiesShareNothing(t *testing.T) {
	names := roomy("A", "B", "A")
	uids := roomy(api.Uid{Type: "A", Id: "a"}, api.Uid{})
	kind := api.Kind{Name: "A", Parents: names, Fields: roomy(api.Field{Name: "n", Type: api.Type{Kind: 9, Of: 8, Name: "x"}})}
	action := api.Action{Name: "a", Principals: names, Resources: names[1:]}
	one := api.Value{Kind: api.VLong, N: 1, L: roomy(api.Value{Kind: api.VUid, U: uids[0]})}
	set := api.Value{Kind: api.VSet, B: true, S: "x", L: roomy(one, one, api.Value{Kind: api.VSet, L: one.L})}
	entity := api.Entity{U: uids[0], Parents: uids, Attrs: roomy(api.Attr{Name: "n", V: set}, api.Attr{Name: "m", V: set})}
	leaf := api.Expr{Op: api.OUid, B: true, N: 5, S: "x", U: uids[0], Kids: roomy(api.Expr{Op: 99})}
	tree := api.Expr{Op: api.OSet, Kids: roomy(leaf, leaf, api.Expr{Op: api.OAnd, Kids: leaf.Kids})}
	policy := api.Policy{
		Forbid:    true,
		Principal: api.Scope{Kind: api.SIn, U: uids[0]}, Action: api.Scope{Kind: 7}, Resource: api.Scope{Kind: api.SSame, U: uids[0]},
		Conds: roomy(api.Cond{Unless: true, E: tree}, api.Cond{E: tree}),
	}
	checkCopy(t, names, copies.List[string])
	checkCopy(t, api.Schema{Kinds: roomy(kind, kind), Actions: roomy(action, action)}, copies.Schema)
	checkCopy(t, kind, copies.Kind)
	checkCopy(t, action, copies.Action)
	checkCopy(t, policy, copies.Policy)
	checkCopy(t, tree, copies.Expr)
	checkCopy(t, roomy(entity, entity), copies.Entities)
	checkCopy(t, entity, copies.Entity)
	checkCopy(t, set, copies.Value)
}

// An empty list is copied as none, whatever lies in its spare room.
func TestCopiesOfEmptyLists(t *testing.T) {
	for _, l := range [][]string{nil, {}, roomy("A")[:0]} {
		if own := copies.List(l); len(own) != 0 || cap(own) != 0 {
			t.Errorf("%d, %d", len(own), cap(own))
		}
	}
	if l := copies.Entities([]api.Entity{}); cap(l) != 0 {
		t.Error(cap(l))
	}
}
