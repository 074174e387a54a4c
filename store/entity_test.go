package store_test

import (
	"fmt"
	"slices"
	"strings"
	"testing"

	"chancel/api"
	"chancel/store"
)

func TestP1502EntitiesThatAreRefused(t *testing.T) {
	for _, x := range []struct {
		name, text string
		want       api.Errno
	}{
		{"e", `A::"x" { n: 1 };`, api.ErrArg},
		{" ", "@", api.ErrArg},
		{"\xff", "\xff", api.ErrArg},
		{"", `A::"x" { n: 1 };` + strings.Repeat(" ", api.MaxText), api.ErrLong},
		{"", `A::"` + strings.Repeat("é", 31) + `" { n: 1 };`, api.ErrLong},
		{"", "A::\"\xff\" { n: 1 };", api.ErrRune},
		{"", `A::"x" { n: 1 };@`, api.ErrToken},
		{"", `A::"x" { n: 9223372036854775808 };`, api.ErrOver},
		{"", `A::"x" { n: 1 }`, api.ErrForm},
		{"", `A::"x"`, api.ErrForm},
		{"", ``, api.ErrForm},
		{"", `A::"x" { n: 1 + 1 };`, api.ErrForm},
		{"", `A::"x" in ` + strings.Repeat(`A::"a", `, 20) + `A::"a" { n: 1 };`, api.ErrMany},
		{"", `C::"x" { b: true, l: [1, 2, 3, 4, 5, 6, 7, 8, 9], s: "x", u: B::"b" };`, api.ErrMany},
		{"", `C::"x" { b: true, l: [1, true], s: "x", u: B::"b" };`, api.ErrType},
		{"", `Z::"x" in A::"1", A::"2", A::"3", A::"4", A::"5" { n: true };`, api.ErrMany},
		{"", `Z::"x" { a: 1, b: 1, c: 1, d: 1, e: 1, f: 1 };`, api.ErrMany},
		{"", `Z::"x" { n: 1, n: 2 };`, api.ErrArg},
		{"", `Z::"x" {};`, api.ErrName},
		{"", `Action::"go" {};`, api.ErrName},
		{"", `A::"x" {};`, api.ErrName},
		{"", `A::"x" { n: 1, m: 1 };`, api.ErrName},
		{"", `A::"x" { m: 1 };`, api.ErrName},
		{"", `B::"x" in A::"gone" { n: 1 };`, api.ErrName},
		{"", `A::"x" in C::"gone" { n: "1" };`, api.ErrType},
		{"", `C::"x" { b: true, l: 1, s: "x", u: B::"b" };`, api.ErrType},
		{"", `C::"x" { b: true, l: [], s: "x", u: C::"c" };`, api.ErrType},
		{"", `A::"x" in C::"c" { n: 1 };`, api.ErrType},
		{"", `A::"x" in A::"0", C::"c" { n: 1 };`, api.ErrGone},
		{"", `A::"x" in C::"c", A::"b" { n: 1 };`, api.ErrType},
		{"", `A::"x" in A::"0" { n: 1 };`, api.ErrGone},
		{"", `A::"x" in A::"x" { n: 1 };`, api.ErrGone},
		{"", `B::"b" in B::"b" {};`, api.ErrCircle},
		{"", `A::"b" in A::"a" { n: 1 };`, api.ErrCircle},
		{"", `A::"b" in A::"b" { n: 1 };`, api.ErrCircle},
		{"", `A::"a" in A::"a", A::"b" { n: 1 };`, api.ErrCircle},
	} {
		do(t, usual(t), api.CEntity, x.name, x.text, x.want)
	}
	for _, text := range []string{`A::"x" { n: 1 };`, `B::"b" {};`, `C::"x" {};`} {
		do(t, store.New(), api.CEntity, "", text, api.ErrName)
	}
}

func TestP1502EntitiesThatAreTaken(t *testing.T) {
	s := schemed(t)
	for _, text := range []string{
		`B::"" {};`,
		`A::"" { n: 0 };`,
		`B::"b" in B::"" {};`,
		`A::"é\n" in B::"b", A::"", B::"b" { n: -9223372036854775807 };`,
		`C::"` + strings.Repeat("é", 30) + `" in A::"" { u: B::"gone", s: "", l: [], b: false };`,
		`C::"d" { b: false, l: [8, 7, 6, 5, 4, 3, 2, 1, 1], s: "", u: B::"" };`,
	} {
		takes(t, s, api.CEntity, "", text)
	}
	checkKept(t, s, append(usualTexts()[:5],
		`A::"" { n: 0 };`,
		`A::"é\n" in A::"", B::"b" { n: -9223372036854775807 };`,
		`B::"" {};`,
		`B::"b" in B::"" {};`,
		`C::"d" { b: false, l: [1, 2, 3, 4, 5, 6, 7, 8], s: "", u: B::"" };`,
		`C::"`+strings.Repeat("é", 30)+`" in A::"" { b: false, l: [], s: "", u: B::"gone" };`,
	)...)
}

// Entities stand by their uids, byte by byte, in whatever order they came.
func TestP1501EntitiesStandByTheirUids(t *testing.T) {
	uids := []string{`A::""`, `A::"0"`, `A::"A"`, `A::"Aa"`, `A::"a"`, `A::"é"`, `B::""`, `B::"A"`, `B::"a"`, `B::"aa"`, `B::"b"`}
	for step := 1; step < len(uids); step++ {
		s := schemed(t)
		want := usualTexts()[:5]
		for i, u := range uids {
			text := uids[i*step%len(uids)]
			takes(t, s, api.CEntity, "", withAttrs(text))
			want = append(want, withAttrs(u))
		}
		checkKept(t, s, want...)
	}
}

// withAttrs is an entity's text that fits, by its uid's.
func withAttrs(u string) string {
	if strings.HasPrefix(u, "A") {
		return u + ` { n: 1 };`
	}
	return u + ` {};`
}

func TestP1502EntityInThePlaceOfAnother(t *testing.T) {
	s := usual(t)
	takes(t, s, api.CEntity, "", `A::"a" { n: 2 };`)
	checkKept(t, s, swapped(map[int]string{7: `A::"a" { n: 2 };`})...)
	takes(t, s, api.CEntity, "", `A::"b" in A::"a", B::"b" { n: 3 };`)
	checkKept(t, s, swapped(map[int]string{7: `A::"a" { n: 2 };`, 8: `A::"b" in A::"a", B::"b" { n: 3 };`})...)
	do(t, s, api.CEntity, "", `A::"a" in A::"b" { n: 1 };`, api.ErrCircle)
	takes(t, s, api.CEntity, "", `A::"b" { n: 1 };`)
	takes(t, s, api.CEntity, "", `A::"a" in A::"b" { n: 1 };`)
	takes(t, s, api.CEntity, "", `A::"b" in B::"b" { n: 1 };`)
	takes(t, s, api.CEntity, "", `B::"b" {};`)
	checkKept(t, s, usualTexts()...)
	do(t, s, api.CEntity, "", `A::"b" { n: true };`, api.ErrType)
	do(t, s, api.CEntity, "", `A::"b" in B::"0" { n: 2 };`, api.ErrGone)
	checkKept(t, s, usualTexts()...)
}

// One of a chain may not come to be below any that is below it, nor below itself; above those it may.
func TestP1502Circles(t *testing.T) {
	const count = api.MaxEntities
	name := func(i int) string { return fmt.Sprintf(`B::"%02d"`, i) }
	s := schemed(t)
	takes(t, s, api.CEntity, "", name(0)+` {};`)
	for i := range count - 1 {
		takes(t, s, api.CEntity, "", name(i+1)+` in `+name(i)+` {};`)
	}
	before := kept(s)
	for i := range count {
		for k := range count {
			want := api.OK
			if k >= i {
				want = api.ErrCircle
			}
			do(t, s, api.CEntity, "", name(i)+` in `+name(k)+` {};`, want)
			if i > 0 {
				do(t, s, api.CEntity, "", name(i)+` in `+name(i-1)+`, `+name(k)+` {};`, want)
				takes(t, s, api.CEntity, "", name(i)+` in `+name(i-1)+` {};`)
			}
		}
	}
	if kept(s) != before {
		t.Error(kept(s))
	}
}

func TestP1502OnesThatGo(t *testing.T) {
	for _, x := range []struct {
		name, text string
		want       api.Errno
	}{
		{"e", `A::"a"`, api.ErrArg},
		{" ", ``, api.ErrArg},
		{"\xff", "@", api.ErrArg},
		{"", `A::"a"` + strings.Repeat(" ", api.MaxText), api.ErrLong},
		{"", `A::"` + strings.Repeat("a", 31) + `"`, api.ErrLong},
		{"", "A::\"a\xff\"", api.ErrRune},
		{"", `A::"a" @`, api.ErrToken},
		{"", `A::'a'`, api.ErrToken},
		{"", ``, api.ErrForm},
		{"", `A`, api.ErrForm},
		{"", `A::a`, api.ErrForm},
		{"", `"a"`, api.ErrForm},
		{"", `A::"a";`, api.ErrForm},
		{"", `A::"a" {}`, api.ErrForm},
		{"", `A::"a", A::"b"`, api.ErrForm},
		{"", `A::"A"`, api.ErrNone},
		{"", `B::"a"`, api.ErrNone},
		{"", `A::"aa"`, api.ErrNone},
		{"", `Z::"a"`, api.ErrNone},
		{"", `Action::"go"`, api.ErrNone},
		{"", `B::"gone"`, api.ErrNone},
		{"", `A::"b"`, api.ErrBusy},
		{"", `B::"b"`, api.ErrBusy},
	} {
		do(t, usual(t), api.CGone, x.name, x.text, x.want)
	}
	do(t, store.New(), api.CGone, "", `A::"a"`, api.ErrNone)

	s := usual(t)
	takes(t, s, api.CGone, "", "A :: \"\\u{61}\" // a\n")
	checkKept(t, s, swapped(map[int]string{7: ``})...)
	do(t, s, api.CGone, "", `A::"a"`, api.ErrNone)
	do(t, s, api.CGone, "", `B::"b"`, api.ErrBusy)
	takesEach(t, s, api.CGone, `C::"c"`, `A::"b"`, `B::"b"`)
	checkKept(t, s, usualTexts()[:7]...)
	takes(t, s, api.CEntity, "", `B::"b" {};`)
	checkKept(t, s, append(usualTexts()[:7], `B::"b" {};`)...)
}

// One is a parent, whichever of several it is, and of whichever entity; an attribute that names it does not keep it there, nor does a policy.
func TestP1502OnesThatOthersLeanOn(t *testing.T) {
	parents := []string{`B::"1"`, `B::"2"`, `B::"3"`, `B::"4"`}
	for _, child := range []string{`A::"a"`, `B::"0"`, `B::"9"`} {
		s := schemed(t)
		for _, p := range parents {
			takes(t, s, api.CEntity, "", p+` {};`)
		}
		takes(t, s, api.CEntity, "", strings.Replace(withAttrs(child), ` {`, ` in `+strings.Join(parents, `, `)+` {`, 1))
		for _, p := range parents {
			do(t, s, api.CGone, "", p, api.ErrBusy)
		}
		for i, p := range slices.Backward(parents) {
			in := ` in ` + strings.Join(parents[:i], `, `)
			if i == 0 {
				in = ``
			}
			takes(t, s, api.CEntity, "", strings.Replace(withAttrs(child), ` {`, in+` {`, 1))
			takes(t, s, api.CGone, "", p)
		}
		takes(t, s, api.CGone, "", child)
		checkKept(t, s, usualTexts()[:5]...)
	}

	s := schemed(t)
	takesEach(t, s, api.CEntity, `B::"gone" {};`, `C::"c"`+fineC)
	takes(t, s, api.CPut, "p", `permit(principal in B::"gone", action, resource);`)
	takes(t, s, api.CGone, "", `B::"gone"`)
}

func TestP1502AsManyEntitiesAsMayBe(t *testing.T) {
	s := schemed(t)
	name := func(i int) string { return fmt.Sprintf(`A::"%02d"`, i) }
	for i := range api.MaxEntities {
		takes(t, s, api.CEntity, "", withAttrs(name(i)))
	}
	for _, u := range []string{`A::"16"`, `A::""`, `B::"b"`, `A::"000"`} {
		do(t, s, api.CEntity, "", withAttrs(u), api.ErrMany)
	}
	for i := range api.MaxEntities {
		takes(t, s, api.CEntity, "", name(i)+` in `+name((i+1)%api.MaxEntities)+` { n: 2 };`)
		do(t, s, api.CEntity, "", `B::"b" {};`, api.ErrMany)
		takes(t, s, api.CEntity, "", withAttrs(name(i)))
	}
	for i := range api.MaxEntities {
		takes(t, s, api.CGone, "", name(i))
		takes(t, s, api.CEntity, "", `B::"b" {};`)
		do(t, s, api.CEntity, "", withAttrs(name(i)), api.ErrMany)
		takes(t, s, api.CGone, "", `B::"b"`)
		takes(t, s, api.CEntity, "", withAttrs(name(i)))
	}
	want := usualTexts()[:5]
	for i := range api.MaxEntities {
		want = append(want, withAttrs(name(i)))
	}
	checkKept(t, s, want...)
}
