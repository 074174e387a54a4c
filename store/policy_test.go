package store_test

import (
	"fmt"
	"slices"
	"strings"
	"testing"

	"chancel/api"
	"chancel/store"
)

func TestP1502PoliciesThatAreRefused(t *testing.T) {
	for _, x := range []struct {
		text string
		want api.Errno
	}{
		{permit + strings.Repeat(" ", api.MaxText), api.ErrLong},
		{"\xff", api.ErrRune},
		{permit + "\xff", api.ErrRune},
		{permit + "@", api.ErrToken},
		{`permit(principal, action, resource) when { "` + strings.Repeat("é", 31) + `" == "" };`, api.ErrLong},
		{`permit(principal, action, resource) when { 9223372036854775808 == 1 };`, api.ErrOver},
		{"", api.ErrForm},
		{`permit`, api.ErrForm},
		{permit + permit, api.ErrForm},
		{source, api.ErrForm},
		{`permit(principal, action, resource)` + strings.Repeat(` when { 1 }`, 5) + `;`, api.ErrMany},
		{`permit(principal, action, resource) when { [1, 2, 3, 4, 5, 6, 7, 8, 9].contains(1) };`, api.ErrMany},
		{`permit(principal, action, resource) when { ` + strings.Repeat("!", 10) + `true };`, api.ErrDeep},
		{`permit(principal == Z::"a", action, resource);`, api.ErrName},
		{`permit(principal, action == Action::"x", resource);`, api.ErrName},
		{`permit(principal, action, resource in Z::"a") when { 1 };`, api.ErrName},
		{`permit(principal == B::"b", action, resource);`, api.ErrNone},
		{`permit(principal, action == A::"go", resource);`, api.ErrNone},
		{`permit(principal, action == Action::"stop", resource == A::"a") when { 1 };`, api.ErrNone},
		{`permit(principal, action, resource) when { 1 };`, api.ErrType},
		{`permit(principal, action, resource) when { true } unless { true } when { 1 + true == 1 };`, api.ErrType},
		{`permit(principal, action, resource) when { principal.n == 1 };`, api.ErrName}, // a C may do it, too
		{`permit(principal, action, resource) when { resource.n == 1 };`, api.ErrName},
		{`permit(principal, action == Action::"go", resource == A::"a") when { resource.n };`, api.ErrType},
	} {
		for _, name := range []string{"p", "f", "new"} {
			do(t, usual(t), api.CPut, name, x.text, x.want)
		}
		do(t, full(t, api.CPut), api.CPut, "new", x.text, x.want)
		do(t, full(t, api.CPut), api.CPut, "p0", x.text, x.want)
	}
}

// On an empty schema no policy is well typed: nobody may do anything.
func TestP1502PoliciesOfAnEmptySchema(t *testing.T) {
	do(t, store.New(), api.CPut, "p", `permit(principal, action, resource);`, api.ErrNone)
	do(t, store.New(), api.CPut, "p", permit, api.ErrName)
	s := store.New()
	takes(t, s, api.CSchema, "", `entity A {};`)
	do(t, s, api.CPut, "p", `permit(principal == A::"a", action, resource);`, api.ErrNone)
}

func TestP1502PoliciesThatAreTaken(t *testing.T) {
	for _, text := range []string{
		permit,
		forbid,
		`permit(principal, action, resource);`,
		`permit(principal == A::"a", action in Action::"go", resource in C::"gone") when { principal.n + 9223372036854775807 > 0 || true } unless { false } when { principal has x } unless { action == Action::"stop" };`,
		`forbid(principal == C::"c", action, resource) when { ` + strings.Repeat("!", 8) + `principal.b };`,
		`forbid(principal == C::"c", action, resource) unless { principal.l.contains(1) && principal.s like "x*" && principal.u in [B::"b", B::"gone"] };`,
	} {
		for _, name := range []string{"new", "p", "f"} {
			s := usual(t)
			takes(t, s, api.CPut, name, text)
			checkHas(t, s, name, text)
			s = store.New()
			takes(t, s, api.CSchema, "", source)
			takes(t, s, api.CPut, name, text)
			checkKept(t, s, append(usualTexts()[:5], name+": "+text)...)
		}
	}
}

// checkHas tells whether a store has a policy of that name and text.
func checkHas(t *testing.T, s *store.Store, name, text string) {
	t.Helper()
	if !slices.Contains(strings.Split(kept(s), "\n"), name+": "+text) {
		t.Errorf("it has not %s: %s; it keeps\n%s", name, text, kept(s))
	}
}

func TestP1502NamesOfPolicies(t *testing.T) {
	for _, name := range badNames() {
		for _, text := range []string{permit, "@", "", "\xff"} {
			do(t, usual(t), api.CPut, name, text, api.ErrName)
			do(t, full(t, api.CPut), api.CPut, name, text, api.ErrName)
		}
	}
	for _, name := range goodNames() {
		s := schemed(t)
		takes(t, s, api.CPut, name, permit)
		checkKept(t, s, append(usualTexts()[:5], name+": "+permit)...)
	}
}

// Policies stand by their names, byte by byte, in whatever order they came.
func TestP1501PoliciesStandByTheirNames(t *testing.T) {
	names := goodNames()
	if !slices.IsSorted(names) {
		t.Fatal(names)
	}
	for from := 0; from+api.MaxPolicies <= len(names); from++ {
		some := names[from : from+api.MaxPolicies]
		for step := 1; step < api.MaxPolicies; step += 2 {
			s := schemed(t)
			for i := range some {
				takes(t, s, api.CPut, some[i*step%len(some)], permit)
			}
			var got []string
			for _, p := range s.Policies() {
				got = append(got, p.Name)
			}
			if !slices.Equal(got, some) {
				t.Errorf("%q; want %q", got, some)
			}
		}
	}
}

func TestP1502PolicyInThePlaceOfAnother(t *testing.T) {
	s := usual(t)
	takes(t, s, api.CPut, "p", forbid)
	checkKept(t, s, swapped(map[int]string{6: `p: ` + forbid})...)
	takes(t, s, api.CPut, "f", permit)
	checkKept(t, s, swapped(map[int]string{5: `f: ` + permit, 6: `p: ` + forbid})...)
	takes(t, s, api.CPut, "f", permit)
	takes(t, s, api.CPut, "F", forbid)
	checkKept(t, s, swapped(map[int]string{5: `F: ` + forbid + "\n" + `f: ` + permit, 6: `p: ` + forbid})...)
	do(t, s, api.CPut, "f", `permit(principal, action, resource) when { 1 };`, api.ErrType)
	checkHas(t, s, "f", permit)
}

func TestP1502Drop(t *testing.T) {
	for _, text := range []string{" ", "p", "@", "\xff", permit, `A::"a"`, strings.Repeat("a", 1000)} {
		for _, name := range append(badNames(), "p", "f", "x") {
			do(t, usual(t), api.CDrop, name, text, api.ErrArg)
		}
	}
	for _, name := range append(badNames(), "x", "P", "pp", "ff", "A") {
		do(t, usual(t), api.CDrop, name, "", api.ErrNone)
		do(t, store.New(), api.CDrop, name, "", api.ErrNone)
	}
	s := usual(t)
	takes(t, s, api.CDrop, "p", "")
	checkKept(t, s, swapped(map[int]string{6: ``})...)
	do(t, s, api.CDrop, "p", "", api.ErrNone)
	takes(t, s, api.CDrop, "f", "")
	checkKept(t, s, swapped(map[int]string{5: ``, 6: ``})...)
	do(t, s, api.CDrop, "f", "", api.ErrNone)
	takes(t, s, api.CPut, "p", permit)
	checkKept(t, s, swapped(map[int]string{5: ``})...)
}

func TestP1502AsManyPoliciesAsMayBe(t *testing.T) {
	s := schemed(t)
	for i := range api.MaxPolicies {
		takes(t, s, api.CPut, fmt.Sprint("p", i), permit)
	}
	for _, name := range []string{"p8", "a", "z", "p", "P0", "p00"} {
		do(t, s, api.CPut, name, permit, api.ErrMany)
		do(t, s, api.CPut, name, forbid, api.ErrMany)
	}
	for i := range api.MaxPolicies {
		takes(t, s, api.CPut, fmt.Sprint("p", i), forbid)
		do(t, s, api.CPut, "p8", permit, api.ErrMany)
	}
	for i := range api.MaxPolicies {
		takes(t, s, api.CDrop, fmt.Sprint("p", i), "")
		takes(t, s, api.CPut, "x", permit)
		do(t, s, api.CPut, fmt.Sprint("p", i), permit, api.ErrMany)
		takes(t, s, api.CDrop, "x", "")
		takes(t, s, api.CPut, fmt.Sprint("p", i), permit)
	}
	want := usualTexts()[:5]
	for i := range api.MaxPolicies {
		want = append(want, fmt.Sprint("p", i, ": ", permit))
	}
	checkKept(t, s, want...)
}
