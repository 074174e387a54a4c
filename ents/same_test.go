package ents_test

import (
	"math/rand"
	"slices"
	"testing"

	"chancel/api"
	"chancel/ents"
)

// changes each make another entity of a full one, unlike in one thing alone.
var changes = []func(e *api.Entity){
	func(e *api.Entity) { e.U.Type = "B" },
	func(e *api.Entity) { e.U.Id = "b" },
	func(e *api.Entity) { e.U.Type, e.U.Id = e.U.Id, e.U.Type },
	func(e *api.Entity) { e.Parents[0].Type = "B" },
	func(e *api.Entity) { e.Parents[0].Id = "" },
	func(e *api.Entity) { e.Parents[3].Id = "b" },
	func(e *api.Entity) { e.Parents = e.Parents[:3] },
	func(e *api.Entity) { e.Parents = e.Parents[1:] },
	func(e *api.Entity) { e.Parents = nil },
	func(e *api.Entity) { e.Parents = append(e.Parents, e.Parents[3]) },
	func(e *api.Entity) { e.Parents = append(e.Parents, api.Uid{}) },
	func(e *api.Entity) { slices.Reverse(e.Parents) },
	func(e *api.Entity) { e.Attrs[0].Name = "a" },
	func(e *api.Entity) { e.Attrs[4].Name = "" },
	func(e *api.Entity) { e.Attrs = e.Attrs[:4] },
	func(e *api.Entity) { e.Attrs = e.Attrs[1:] },
	func(e *api.Entity) { e.Attrs = nil },
	func(e *api.Entity) { e.Attrs = append(e.Attrs, e.Attrs[4]) },
	func(e *api.Entity) { e.Attrs = append(e.Attrs, api.Attr{}) },
	func(e *api.Entity) { slices.Reverse(e.Attrs) },
	func(e *api.Entity) { e.Attrs[0].V, e.Attrs[1].V = e.Attrs[1].V, e.Attrs[0].V },
	func(e *api.Entity) { e.Attrs[0].V.B = false },
	func(e *api.Entity) { e.Attrs[0].V.Kind = api.VLong },
	func(e *api.Entity) { e.Attrs[0].V.N = 1 },
	func(e *api.Entity) { e.Attrs[1].V.N++ },
	func(e *api.Entity) { e.Attrs[1].V.N = 7 },
	func(e *api.Entity) { e.Attrs[1].V.N += 1 << 32 },
	func(e *api.Entity) { e.Attrs[1].V.B = true },
	func(e *api.Entity) { e.Attrs[1].V.S = "-7" },
	func(e *api.Entity) { e.Attrs[1].V.U.Type = "A" },
	func(e *api.Entity) { e.Attrs[1].V.U.Id = "A" },
	func(e *api.Entity) { e.Attrs[1].V.L = []api.Value{{}} },
	func(e *api.Entity) { e.Attrs[1].V.Kind = 9 },
	func(e *api.Entity) { e.Attrs[2].V.S = "" },
	func(e *api.Entity) { e.Attrs[2].V.S = "xx" },
	func(e *api.Entity) { e.Attrs[3].V.U.Type = "a" },
	func(e *api.Entity) { e.Attrs[3].V.U.Id = "" },
	func(e *api.Entity) { e.Attrs[4].V.L[0].S = "" },
	func(e *api.Entity) { e.Attrs[4].V.L[1].S = "c" },
	func(e *api.Entity) { e.Attrs[4].V.L[1].N = 1 },
	func(e *api.Entity) { e.Attrs[4].V.L[1].Kind = api.VBool },
	func(e *api.Entity) { e.Attrs[4].V.L[1].L = []api.Value{long(1)} },
	func(e *api.Entity) { e.Attrs[4].V.L[1].L = []api.Value{long(2)} },
	func(e *api.Entity) { e.Attrs[4].V.L = e.Attrs[4].V.L[:1] },
	func(e *api.Entity) { e.Attrs[4].V.L = nil },
	func(e *api.Entity) { e.Attrs[4].V.L = append(e.Attrs[4].V.L, str("b")) },
	func(e *api.Entity) { slices.Reverse(e.Attrs[4].V.L) },
	func(e *api.Entity) { e.Attrs[4].V = deep(90) },
	func(e *api.Entity) { e.Attrs[4].V = deep(91) },
}

func unlike() []api.Entity {
	l := []api.Entity{{}, full(uid("A", "a")), odd(uid("A", "a"))}
	for _, change := range changes {
		e := full(uid("A", "a"))
		change(&e)
		l = append(l, e)
	}
	return l
}

func TestP802Same(t *testing.T) {
	l, others := unlike(), unlike()
	for i := range l {
		for k := range others {
			if ents.Same(l[i], others[k]) != (i == k) {
				t.Errorf("Same is %v: %.400s, %.400s", i != k, dump(l[i]), dump(others[k]))
			}
		}
	}
}

// No list and an empty one are the same (P2), and spare room is none of a list's.
func TestP802SameLists(t *testing.T) {
	v := func(l []api.Value) []api.Attr { return []api.Attr{attr("a", set(l...))} }
	for _, l := range [][]api.Entity{
		{{}, {Parents: []api.Uid{}, Attrs: []api.Attr{}}, {Parents: make([]api.Uid, 0, 3), Attrs: make([]api.Attr, 0, 3)}},
		{{Attrs: v(nil)}, {Attrs: v([]api.Value{})}, {Attrs: v(make([]api.Value, 0, 3))}},
		{{Attrs: v([]api.Value{set()})}, {Attrs: v([]api.Value{set([]api.Value{}...)})}},
		{{Parents: []api.Uid{uid("A", "a")}}, {Parents: []api.Uid{uid("A", "a"), uid("A", "b")}[:1]}},
	} {
		for _, a := range l {
			for _, b := range l {
				if !ents.Same(a, b) {
					t.Errorf("Same is false: %#v, %#v", a, b)
				}
			}
		}
	}
}

func TestP802SameRandom(t *testing.T) {
	r := rand.New(rand.NewSource(1))
	for range 3000 {
		a, b := randomEntity(r), randomEntity(r)
		if got := ents.Same(a, b); got != (dump(a) == dump(b)) {
			t.Fatalf("Same is %v: %s, %s", got, dump(a), dump(b))
		}
		again := ents.Put(nil, a)[0]
		if !ents.Same(a, again) || !ents.Same(again, a) {
			t.Fatalf("Same is false: %s, %s", dump(a), dump(again))
		}
	}
}
