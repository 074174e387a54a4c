package above_test

import (
	"fmt"
	"slices"
	"strings"
	"testing"

	"chancel/above"
	"chancel/api"
)

// uid is one of the type T, or of the type that stands ahead of a colon.
func uid(s string) api.Uid {
	if kind, id, is := strings.Cut(s, ":"); is {
		return api.Uid{Type: kind, Id: id}
	}
	return api.Uid{Type: "T", Id: s}
}

// uids are those of a text, parted by spaces.
func uids(s string) []api.Uid {
	var l []api.Uid
	for _, one := range strings.Fields(s) {
		l = append(l, uid(one))
	}
	return l
}

// names writes uids as uids reads them.
func names(l []api.Uid) string {
	var all []string
	for _, u := range l {
		if u.Type == "T" {
			all = append(all, u.Id)
		} else {
			all = append(all, u.Type+":"+u.Id)
		}
	}
	return strings.Join(all, " ")
}

// order is that of uids, by the library.
func order(a, b api.Uid) int {
	if c := strings.Compare(a.Type, b.Type); c != 0 {
		return c
	}
	return strings.Compare(a.Id, b.Id)
}

// world is entities by their uids: each text has one, and then its parents as they are to stand.
func world(rows ...string) []api.Entity {
	var l []api.Entity
	for _, row := range rows {
		all := uids(row)
		l = append(l, api.Entity{U: all[0], Parents: all[1:]})
	}
	slices.SortFunc(l, func(a, b api.Entity) int { return order(a.U, b.U) })
	return l
}

// letter is one of a to p: as many as there may be entities.
func letter(i int) string { return string(rune('a' + i)) }

// chain is n entities, each the parent of the one ahead; the last one's parents are those of end.
func chain(n int, end string) []api.Entity {
	var rows []string
	for i := range n - 1 {
		rows = append(rows, letter(i)+" "+letter(i+1))
	}
	return world(append(rows, letter(n-1)+" "+end)...)
}

func checkIn(t *testing.T, l []api.Entity, u, x string, want bool) {
	t.Helper()
	if got := above.In(l, uid(u), uid(x)); got != want {
		t.Errorf("In of %s in %s: %v; %v", u, x, got, l)
	}
}

func checkAbove(t *testing.T, l []api.Entity, u, want string) {
	t.Helper()
	if got := names(above.Above(l, uid(u))); got != want {
		t.Errorf("Above of %s: %q; want %q; %v", u, got, want, l)
	}
}

func checkBelow(t *testing.T, l []api.Entity, u, want string) {
	t.Helper()
	if got := names(above.Below(l, uid(u))); got != want {
		t.Errorf("Below of %s: %q; want %q; %v", u, got, want, l)
	}
}

func checkCircle(t *testing.T, l []api.Entity, u, parents string, want bool) {
	t.Helper()
	if got := above.Circle(l, uid(u), uids(parents)); got != want {
		t.Errorf("Circle of %s under %q: %v; %v", u, parents, got, l)
	}
}

// dump tells all fields of whatever there is; no list and an empty one are the same.
func dump(x any) string {
	return strings.ReplaceAll(fmt.Sprintf("%#v", x), "(nil)", "{}")
}
