package parse_test

import (
	"strconv"
	"strings"
	"testing"

	"chancel/api"
	"chancel/parse"
	"chancel/value"
)

func vLong(n int64) api.Value { return api.Value{Kind: api.VLong, N: n} }

func vStr(s string) api.Value { return api.Value{Kind: api.VStr, S: s} }

func vBool(b bool) api.Value { return api.Value{Kind: api.VBool, B: b} }

func vUid(t, id string) api.Value { return api.Value{Kind: api.VUid, U: api.Uid{Type: t, Id: id}} }

func vSet(l ...api.Value) api.Value { return api.Value{Kind: api.VSet, L: l} }

func id(t, id string) api.Uid { return api.Uid{Type: t, Id: id} }

func TestP501Uids(t *testing.T) {
	checkRead(t, parse.Uid, `A::"b"`, id("A", "b"))
	checkRead(t, parse.Uid, " A\n::\t\"\" // c", id("A", ""))
	checkRead(t, parse.Uid, `_9::"::\"\u{7}"`, id("_9", "::\"\a"))
	checkRead(t, parse.Uid, `abcdefghijkl::"`+times("é", 30, "")+`"`, id("abcdefghijkl", times("é", 30, "")))
	checkErrors(t, parse.Uid, api.ErrForm, ``, `A`, `A::`, `::"b"`, `::`, `"b"`, `A"b"`, `A:"b"`, `A: :"b"`, `A::b`, `A::1`, `1::"b"`, `"A"::"b"`, `A::::"b"`, `A::B::"b"`, `A::"b"::"c"`, `A::"b";`, `A::"b" "c"`, `A::"b".c`, `(A::"b")`, `A.B::"b"`, `-A::"b"`, `A "::" "b"`)
	checkErrors(t, parse.Uid, api.ErrLong, `abcdefghijklm::"b"`, `A::"`+times("a", 31, "")+`"`)
}

func TestP501Entities(t *testing.T) {
	checkRead(t, parse.Entity, `A::"b" {};`, api.Entity{U: id("A", "b")})
	checkRead(t, parse.Entity, `A::"b" in C::"d" {};`, api.Entity{U: id("A", "b"), Parents: []api.Uid{id("C", "d")}})
	checkRead(t, parse.Entity, `A::""in C::"d",A::""{a:1};// end`, api.Entity{U: id("A", ""), Parents: []api.Uid{id("A", ""), id("C", "d")}, Attrs: []api.Attr{{Name: "a", V: vLong(1)}}})
}

func TestP501Literals(t *testing.T) {
	for s, want := range map[string]api.Value{
		`true`:                                vBool(true),
		`false`:                               vBool(false),
		`0`:                                   vLong(0),
		`-0`:                                  vLong(0),
		`7`:                                   vLong(7),
		`- 7`:                                 vLong(-7),
		`9223372036854775807`:                 vLong(1<<63 - 1),
		`-9223372036854775807`:                vLong(-1<<63 + 1),
		`""`:                                  vStr(""),
		`"true"`:                              vStr("true"),
		`"-"`:                                 vStr("-"),
		`"\n\u{1F600}"`:                       vStr("\n😀"),
		`B::"c"`:                              vUid("B", "c"),
		`true::"c"`:                           vUid("true", "c"),
		`false::""`:                           vUid("false", ""),
		`in::"in"`:                            vUid("in", "in"),
		`[]`:                                  vSet(),
		`[1]`:                                 vSet(vLong(1)),
		`[true, false, true]`:                 vSet(vBool(false), vBool(true)),
		`[3, -1, 3, 2, -1]`:                   vSet(vLong(-1), vLong(2), vLong(3)),
		`["b", "", "a", "b"]`:                 vSet(vStr(""), vStr("a"), vStr("b")),
		`[B::"a", A::"b", true::"x", A::"b"]`: vSet(vUid("A", "b"), vUid("B", "a"), vUid("true", "x")),
	} {
		checkRead(t, parse.Entity, `A::"b" { a: `+s+` };`, api.Entity{U: id("A", "b"), Attrs: []api.Attr{{Name: "a", V: want}}})
		checkRead(t, parse.Entity, `A::"b"{b:`+s+`,a:`+s+`};`, api.Entity{U: id("A", "b"), Attrs: []api.Attr{{Name: "a", V: want}, {Name: "b", V: want}}})
		if err := value.Check(want); err != api.OK {
			t.Errorf("%s: %v", s, err)
		}
	}
	for _, bad := range []string{``, `x`, `principal`, `True`, `B`, `B::`, `B::c`, `::"c"`, `- true`, `-"a"`, `--1`, `- -1`, `-`, `-B::"c"`, `-[1]`, `+1`, `!true`, `(1)`, `1 + 1`, `1.a`, `1 2`, `"a" "b"`, `[`, `]`, `[1`, `1]`, `[,]`, `[1,]`, `[,1]`, `[1 2]`, `[[]]`, `[[1]]`, `[1, [2]]`, `[x]`, `[(1)]`, `[1 + 1]`, `[--1]`, `[-]`, `[-true]`, `[principal]`, `[1;2]`, `{}`, `[].a`, `if true then 1 else 2`, `B::"c"::"d"`, `"true`} {
		want := api.ErrForm
		if strings.HasPrefix(bad, `"true`) {
			want = api.ErrToken
		}
		checkErrors(t, parse.Entity, want, `A::"b" { a: `+bad+` };`, `A::"b" { a: 1, b: `+bad+` };`, `A::"b" { a: `+bad+`, b: 1 };`)
	}
	checkError(t, parse.Entity, `A::"b" { a: -9223372036854775808 };`, api.ErrOver)
	checkError(t, parse.Entity, `A::"b" { a: 01 };`, api.ErrToken)
}

func TestP501EntitiesInOrder(t *testing.T) {
	checkRead(t, parse.Entity, `Z::"z" in b::"a", B::"b", b::"", B::"b", a::"z", B::"a", Z::"z", B::"b", a::"z" { y: 1, x: "s", y: [2, 1], a: true, _: 5, Z: A::"b", x: 3, y: 0, aa: [] };`,
		api.Entity{
			U:       id("Z", "z"),
			Parents: []api.Uid{id("B", "a"), id("B", "b"), id("Z", "z"), id("a", "z"), id("b", ""), id("b", "a")},
			Attrs: []api.Attr{
				{Name: "Z", V: vUid("A", "b")},
				{Name: "_", V: vLong(5)},
				{Name: "a", V: vBool(true)},
				{Name: "aa", V: vSet()},
				{Name: "x", V: vStr("s")},
				{Name: "x", V: vLong(3)},
				{Name: "y", V: vLong(1)},
				{Name: "y", V: vSet(vLong(1), vLong(2))},
				{Name: "y", V: vLong(0)},
			},
		})
	// So many of one name that a sorting that does not keep their order would show it.
	var texts []string
	var front, back []api.Attr
	for i := range 20 {
		name := []string{"n", "m"}[i%2]
		a := api.Attr{Name: name, V: vLong(int64(i * 7 % 20))}
		texts = append(texts, name+":"+strconv.Itoa(i*7%20))
		if i%2 == 1 {
			front = append(front, a)
		} else {
			back = append(back, a)
		}
	}
	checkRead(t, parse.Entity, `A::"b" {`+strings.Join(texts, ",")+`};`, api.Entity{U: id("A", "b"), Attrs: append(front, back...)})
}

func TestP501WordsInEntities(t *testing.T) {
	for _, w := range words {
		checkRead(t, parse.Entity, w+`::"a" in `+w+`::"b", `+w+`::"a" { `+w+`: `+w+`::"c", a: [`+w+`::"d"] };`, api.Entity{
			U:       id(w, "a"),
			Parents: []api.Uid{id(w, "a"), id(w, "b")},
			Attrs:   sortedPair(api.Attr{Name: w, V: vUid(w, "c")}, api.Attr{Name: "a", V: vSet(vUid(w, "d"))}),
		})
		if w != "true" && w != "false" {
			checkErrors(t, parse.Entity, api.ErrForm, `A::"b" { a: `+w+` };`, `A::"b" { a: [`+w+`] };`)
		}
	}
}

func sortedPair(a, b api.Attr) []api.Attr {
	if b.Name < a.Name {
		a, b = b, a
	}
	return []api.Attr{a, b}
}

func TestP501EntitiesThatAreNone(t *testing.T) {
	checkErrors(t, parse.Entity, api.ErrForm, ``, `;`, `{};`, `A {};`, `A::"b"`, `A::"b";`, `A::"b" {}`, `A::"b" {};;`, `A::"b" {}; A::"b" {};`, `A::"b" in {};`, `A::"b" in C {};`, `A::"b" in C::"d", {};`, `A::"b" in C::"d" E::"f" {};`, `A::"b" in [C::"d"] {};`, `A::"b" in in {};`, `A::"b", C::"d" {};`, `A::"b" C::"d" {};`, `A::"b" == C::"d" {};`, `A::"b" {,};`, `A::"b" {a};`, `A::"b" {a:};`, `A::"b" {:1};`, `A::"b" {a: 1,};`, `A::"b" {a: 1 b: 2};`, `A::"b" {a: 1; b: 2};`, `A::"b" {"a": 1};`, `A::"b" {1: 1};`, `A::"b" {a::"c"};`, `A::"b" {a:::"c"};`, `A::"b" [];`, `A::"b" (a: 1);`, `entity A::"b" {};`, `"A"::"b" {};`, `A::b {};`)
}

func TestP501SetsOfEntities(t *testing.T) {
	for n := range 25 {
		var unlike []string
		var l []api.Value
		for i := range n {
			unlike, l = append(unlike, strconv.Itoa(n-i)), append(l, vLong(int64(i+1)))
		}
		s := `A::"b" { a: [` + strings.Join(unlike, ",") + `] };`
		if n > 8 {
			checkError(t, parse.Entity, s, api.ErrMany)
		} else {
			checkRead(t, parse.Entity, s, api.Entity{U: id("A", "b"), Attrs: []api.Attr{{Name: "a", V: vSet(l...)}}})
		}
		// Of doubles up to twenty may stand in the text.
		s = `A::"b" { a: [` + times(`"x"`, n, `,`) + `] };`
		switch {
		case n > 20:
			checkError(t, parse.Entity, s, api.ErrMany)
		case n > 0:
			checkRead(t, parse.Entity, s, api.Entity{U: id("A", "b"), Attrs: []api.Attr{{Name: "a", V: vSet(vStr("x"))}}})
		}
	}
	eight := `1,2,3,4,5,6,7,8`
	checkError(t, parse.Entity, `A::"b" { a: [`+eight+`,`+eight+`,1,2,3,4] };`, api.OK)
	checkError(t, parse.Entity, `A::"b" { a: [`+eight+`,`+eight+`,1,2,3,9] };`, api.ErrMany)
	kinds := []string{`1`, `true`, `"a"`, `B::"c"`}
	for i, a := range kinds {
		for k, b := range kinds {
			want := api.OK
			if i != k {
				want = api.ErrType
			}
			checkError(t, parse.Entity, `A::"b" { a: [`+a+`, `+b+`] };`, want)
			checkError(t, parse.Entity, `A::"b" { a: [`+a+`, `+a+`, `+b+`] };`, want)
		}
	}
	checkError(t, parse.Entity, `A::"b" { a: [`+eight+`,9,true] };`, api.ErrType)
	checkError(t, parse.Entity, `A::"b" { a: [1, "1"], a: [2] };`, api.ErrType)
}

func TestP501EntitiesWithListsOfTwenty(t *testing.T) {
	for n := 1; n <= 24; n++ {
		want := api.OK
		if n > 20 {
			want = api.ErrMany
		}
		for _, s := range []string{
			`A::"b" in ` + times(`C::"d"`, n, `,`) + ` {};`,
			`A::"b" {` + times(`a:1`, n, `,`) + `};`,
			`A::"b" {a: [` + times(`1`, n, `,`) + `]};`,
			`A::"b" in C::"d" {a: 1, b: [], c: [` + times(`-1`, n, `,`) + `]};`,
		} {
			checkError(t, parse.Entity, s, want)
			checkErrors(t, parse.Entity, api.ErrForm, s+`;`, `x `+s, strings.TrimSuffix(s, `;`))
		}
	}
	var unlike []string
	for i := range 21 {
		unlike = append(unlike, `C::"`+string(rune('a'+i))+`"`)
	}
	checkError(t, parse.Entity, `A::"b" in `+strings.Join(unlike[:20], `,`)+` {};`, api.OK)
	checkError(t, parse.Entity, `A::"b" in `+strings.Join(unlike, `,`)+` {};`, api.ErrMany)
}

func TestP501EntitiesWhichErrorFirst(t *testing.T) {
	mixed, nine, long := `[1, true]`, `[1,2,3,4,5,6,7,8,9]`, `[`+times(`1`, 21, `,`)+`]`
	for _, s := range []string{
		`A::"b" { a: ` + mixed + `, b: ` + long + ` };`,
		`A::"b" { b: ` + long + `, a: ` + mixed + ` };`,
		`A::"b" in ` + times(`C::"d"`, 21, `,`) + ` { a: ` + mixed + ` };`,
		`A::"b" { a: ` + mixed + `, ` + times(`b:1`, 20, `,`) + ` };`,
		`A::"b" { a: [` + times(`1, true`, 11, `,`) + `] };`,
		`A::"b" { a: ` + nine + `, b: ` + mixed + ` };`,
		// The first one of the text, not by the names.
		`A::"b" { b: ` + nine + `, a: ` + mixed + ` };`,
	} {
		checkError(t, parse.Entity, s, api.ErrMany)
		checkErrors(t, parse.Entity, api.ErrForm, s+`;`, strings.TrimSuffix(s, `;`), strings.TrimSuffix(s, `};`)+`, c };`)
	}
	checkError(t, parse.Entity, `A::"b" { a: `+mixed+`, b: `+nine+` };`, api.ErrType)
	checkError(t, parse.Entity, `A::"b" { b: `+mixed+`, a: `+nine+` };`, api.ErrType)
}
