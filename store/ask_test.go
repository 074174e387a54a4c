package store_test

import (
	"fmt"
	"slices"
	"testing"

	"chancel/api"
	"chancel/decide"
	"chancel/schema"
	"chancel/store"
)

func checkAsk(t *testing.T, s *store.Store, text, want string) {
	t.Helper()
	if got := told(s.Ask(request(text))); got != want {
		t.Errorf("Ask of %s: %s; want %s; of\n%s", text, got, want, kept(s))
	}
}

// An answer goes with what is kept, from one command to the next.
func TestP1503AskAsThingsChange(t *testing.T) {
	s := store.New()
	const text = "A a go B b"
	checkAsk(t, s, text, "-|")
	takes(t, s, api.CSchema, "", source)
	checkAsk(t, s, text, "-|")
	takes(t, s, api.CPut, "p", permit)
	checkAsk(t, s, text, "-|p")
	takes(t, s, api.CEntity, "", `A::"a" { n: 2 };`)
	checkAsk(t, s, text, "-|")
	takes(t, s, api.CEntity, "", `A::"a" { n: 1 };`)
	checkAsk(t, s, text, "+p|")
	takes(t, s, api.CPut, "f", forbid)
	checkAsk(t, s, text, "+p|")
	takesEach(t, s, api.CEntity, `B::"b" {};`, `A::"a" in B::"b" { n: 1 };`)
	checkAsk(t, s, text, "-f|")
	do(t, s, api.CPut, "f", `forbid(principal, action, resource) when { 1 };`, api.ErrType)
	checkAsk(t, s, text, "-f|")
	takes(t, s, api.CPut, "f", `permit(principal, action, resource) when { A::"b".n + 1 == 2 };`)
	checkAsk(t, s, text, "+p|f")
	takes(t, s, api.CEntity, "", `A::"b" { n: 9223372036854775807 };`)
	checkAsk(t, s, text, "+p|f")
	takes(t, s, api.CEntity, "", `A::"b" { n: 1 };`)
	checkAsk(t, s, text, "+f p|")
	takes(t, s, api.CDrop, "p", "")
	checkAsk(t, s, text, "+f|")
	takes(t, s, api.CDrop, "f", "")
	checkAsk(t, s, text, "-|")
}

// Names stand in the order of the policies, whenever they were put.
func TestP1503AskNamesInOrder(t *testing.T) {
	s := usual(t)
	takes(t, s, api.CDrop, "f", "")
	takes(t, s, api.CDrop, "p", "")
	for _, name := range []string{"d", "B", "a", "c"} {
		takes(t, s, api.CPut, name, permit)
	}
	for _, name := range []string{"z", "A", "b", "y"} {
		takes(t, s, api.CPut, name, `forbid(principal, action, resource) when { A::"gone".n == 1 };`)
	}
	checkAsk(t, s, "A a go B b", "+B a c d|A b y z")
	for _, name := range []string{"z", "A", "b", "y"} {
		takes(t, s, api.CPut, name, forbid)
	}
	checkAsk(t, s, "A a go B b", "-A b y z|")
}

// requests are of all types, of entities that are there and of others, and of actions of which some are none.
func requests() []api.Request {
	var l []api.Request
	uids := []api.Uid{uid("A", "a"), uid("A", "b"), uid("A", "gone"), uid("B", "b"), uid("B", "gone"), uid("C", "c"), uid("Z", "z"), uid("Action", "go"), {}, uid("\xff", "\xff")}
	for _, principal := range uids {
		for _, action := range []api.Uid{uid("Action", "go"), uid("Action", "stop"), uid("Action", "x"), uid("A", "go"), {}} {
			for _, resource := range uids {
				l = append(l, api.Request{Principal: principal, Action: action, Resource: resource})
			}
		}
	}
	return l
}

// typed are policies that are well typed by source; of requests that it does not allow they may err in other ways.
func typed() []string {
	return []string{
		permit,
		forbid,
		`permit(principal, action, resource);`,
		`permit(principal, action == Action::"go", resource) when { principal.n + 9223372036854775807 > 0 };`,
		`forbid(principal == A::"a", action == Action::"go", resource == A::"b") when { principal.n == resource.n };`,
		`permit(principal == C::"c", action, resource) when { principal.b && resource.u in principal || resource.l.contains(1) };`,
		`forbid(principal, action == Action::"stop", resource) unless { resource.s like "x*" };`,
		`permit(principal, action, resource) unless { principal has n && principal in resource };`,
	}
}

// Ask is decide.All of what is kept, of any request, be it such as the schema allows or not.
func TestP1503AskOfAnyRequest(t *testing.T) {
	s := peopled(t)
	for i, text := range typed() {
		takes(t, s, api.CPut, fmt.Sprint("p", i), text)
	}
	fits, allowed := 0, 0
	for _, r := range requests() {
		a := s.Ask(r)
		if want := decide.All(s.Entities(), r, s.Policies()); told(a) != told(want) {
			t.Errorf("%v: %s; want %s", r, told(a), told(want))
		}
		if schema.Fits(s.Schema(), r) == api.OK {
			fits++
		}
		if a.Allow {
			allowed++
		}
	}
	if fits < 10 || allowed < 10 {
		t.Errorf("%d, %d", fits, allowed)
	}
}

// checkErrors tells, of all requests that the schema allows, by which errors policies err (P1504: by numbers and by what is gone alone).
func checkErrors(t *testing.T, s *store.Store, rs []api.Request) map[api.Errno]int {
	t.Helper()
	count := map[api.Errno]int{}
	k, ps, es := s.Schema(), s.Policies(), s.Entities()
	for _, r := range rs {
		if schema.Fits(k, r) != api.OK {
			continue
		}
		var erred []string
		for _, p := range ps {
			_, err := decide.One(es, r, p.P)
			count[err]++
			if err != api.OK {
				erred = append(erred, p.Name)
			}
			if err != api.OK && err != api.ErrOver && err != api.ErrGone {
				t.Errorf("%s: %v of %v; by\n%s", p.Name, err, r, kept(s))
			}
		}
		if got := s.Ask(r).Errors; !slices.Equal(got, erred) {
			t.Errorf("%v: %q; want %q", r, got, erred)
		}
	}
	return count
}

func TestP1504OnlyNumbersAndWhatIsGoneErr(t *testing.T) {
	s := peopled(t)
	for i, text := range []string{
		`permit(principal, action == Action::"go", resource) when { principal.n + 9223372036854775807 > 0 };`,
		`permit(principal, action == Action::"go", resource) unless { -principal.n - 9223372036854775807 * 2 == 1 };`,
		`permit(principal, action == Action::"stop", resource) when { resource.l.contains(A::"gone".n) || resource.b };`,
		`forbid(principal == C::"c", action, resource) when { [principal.u, B::"b", resource.u].contains(B::"b") };`,
	} {
		takes(t, s, api.CPut, fmt.Sprint("p", i), text)
	}
	count := checkErrors(t, s, requests())
	if count[api.OK] < 10 || count[api.ErrOver] < 3 || count[api.ErrGone] < 3 {
		t.Errorf("%v", count)
	}
}
