package above_test

import (
	"testing"

	"chancel/above"
	"chancel/api"
)

// roomy is a list with the same elements, and room behind them that is written full.
func roomy[T any](l []T, with T) []T {
	all := append(append(make([]T, 0, len(l)+9), l...), with, with, with, with, with, with, with, with, with)
	return all[:len(l)]
}

// roomyWorld has a chain, a circle, and parents that are not there; there is room behind each of its lists.
func roomyWorld() []api.Entity {
	l := world("a d c b", "b c", "c z y", "d b a b", "e", "f f a")
	for i := range l {
		l[i].Parents = roomy(l[i].Parents, uid("spare"))
		l[i].Attrs = roomy(l[i].Attrs, api.Attr{Name: "spare"})
	}
	return roomy(l, api.Entity{U: uid("spare"), Parents: uids("a b")})
}

// whole tells all that a row has, the spare room of its lists too.
func whole(l []api.Entity) string {
	all := ""
	for _, e := range l[:cap(l)] {
		all += dump(e.U) + dump(e.Parents[:cap(e.Parents)]) + dump(e.Attrs[:cap(e.Attrs)])
	}
	return all
}

// spoil writes into all that a list has, its spare room too.
func spoil(l []api.Uid) {
	l = l[:cap(l)]
	for i := range l {
		l[i] = uid("spoilt")
	}
}

var everyone = []string{"a", "b", "c", "d", "e", "f", "x", "y", "z", "spare"}

// What is handed in is left alone, its spare room too, also where the answer is written into.
func TestP2RowsAreLeftAlone(t *testing.T) {
	l := roomyWorld()
	before := whole(l)
	for _, u := range everyone {
		spoil(above.Above(l, uid(u)))
		if whole(l) != before {
			t.Fatalf("Above of %s: changed", u)
		}
		spoil(above.Below(l, uid(u)))
		if whole(l) != before {
			t.Fatalf("Below of %s: changed", u)
		}
		for _, x := range everyone {
			above.In(l, uid(u), uid(x))
			if whole(l) != before {
				t.Fatalf("In of %s in %s: changed", u, x)
			}
		}
	}
}

func TestP2ParentsAreLeftAlone(t *testing.T) {
	for _, some := range []string{"", "a", "e", "z", "a a", "f e d c b a", "b f x b z"} {
		for _, u := range everyone {
			l, parents := roomyWorld(), roomy(uids(some), uid("spare"))
			rows, list := whole(l), dump(parents[:cap(parents)])
			above.Circle(l, uid(u), parents)
			if whole(l) != rows || dump(parents[:cap(parents)]) != list {
				t.Fatalf("Circle of %s under %q: changed", u, some)
			}
		}
	}
	// The parents may be those that an entity has already.
	l := roomyWorld()
	before := whole(l)
	for _, e := range l {
		for _, u := range everyone {
			above.Circle(l, uid(u), e.Parents)
		}
	}
	if whole(l) != before {
		t.Fatal("Circle under an entity's own parents: changed")
	}
}

// What stands in spare room is not asked.
func TestP2SpareRoomIsNotAsked(t *testing.T) {
	l := roomyWorld()
	for _, u := range everyone {
		checkIn(t, l, u, "spare", u == "spare")
	}
	checkAbove(t, l, "f", "a b c d f y z")
	checkAbove(t, l, "spare", "")
	checkBelow(t, l, "b", "a d f")
	checkBelow(t, l, "spare", "")
	if above.Circle(l, uid("spare"), roomy(uids("a f"), uid("spare"))) {
		t.Error("Circle by what stands in spare room")
	}
}

// An answer keeps as it is, whatever becomes of what was handed in, and of other answers.
func TestP2AnswersAreNew(t *testing.T) {
	for _, u := range everyone {
		l := roomyWorld()
		up, down := above.Above(l, uid(u)), above.Below(l, uid(u))
		wantUp, wantDown := names(up), names(down)
		for i := range l {
			spoil(l[i].Parents)
			l[i] = api.Entity{U: uid("spoilt")}
		}
		if names(up) != wantUp || names(down) != wantDown {
			t.Fatalf("of %s: kept", u)
		}
		l = roomyWorld()
		spoil(above.Above(l, uid(u)))
		spoil(above.Below(l, uid(u)))
		checkAbove(t, l, u, wantUp)
		checkBelow(t, l, u, wantDown)
	}
}
