package show_test

import (
	"math"
	"strings"
	"testing"

	"chancel/api"
	"chancel/parse"
	"chancel/show"
	"chancel/value"
)

func vLong(n int64) api.Value { return api.Value{Kind: api.VLong, N: n} }

func vStr(s string) api.Value { return api.Value{Kind: api.VStr, S: s} }

func vBool(b bool) api.Value { return api.Value{Kind: api.VBool, B: b} }

func vUid(t, id string) api.Value { return api.Value{Kind: api.VUid, U: api.Uid{Type: t, Id: id}} }

func vSet(l ...api.Value) api.Value { return api.Value{Kind: api.VSet, L: l} }

func TestP601Uids(t *testing.T) {
	uids.check(t, id("A", "b"), `A::"b"`)
	uids.check(t, id("_", ""), `_::""`)
	uids.check(t, id("abcdefghijkl", strings.Repeat("é", 30)), `abcdefghijkl::"`+strings.Repeat("é", 30)+`"`)
	uids.check(t, id("A", `::"\`), `A::"::\"\\"`)
}

func TestP602Values(t *testing.T) {
	for _, c := range []struct {
		v    api.Value
		want string
	}{
		{vBool(true), "true"}, {vBool(false), "false"},
		{vLong(0), "0"}, {vLong(5), "5"}, {vLong(-5), "-5"}, {vLong(math.MaxInt64), "9223372036854775807"}, {vLong(math.MinInt64 + 1), "-9223372036854775807"},
		{vStr(""), `""`}, {vStr("true"), `"true"`}, {vStr("\"\\\n\t\x00\x7fé"), `"\"\\\n\t\u{0}\u{7f}é"`},
		{vUid("A", ""), `A::""`}, {vUid("true", "\n"), `true::"\n"`},
		{vSet(), "[]"}, {vSet(vLong(-1)), "[-1]"}, {vSet(vLong(-2), vLong(-1), vLong(3)), "[-2, -1, 3]"}, {vSet(vBool(false), vBool(true)), "[false, true]"}, {vSet(vStr(""), vStr(", ")), `["", ", "]`}, {vSet(vUid("A", ""), vUid("A", "b"), vUid("B", "")), `[A::"", A::"b", B::""]`},
		{vSet(vLong(1), vLong(2), vLong(3), vLong(4), vLong(5), vLong(6), vLong(7), vLong(8)), "[1, 2, 3, 4, 5, 6, 7, 8]"},
	} {
		if err := value.Check(c.v); err != api.OK {
			t.Fatal(err)
		}
		entities.check(t, api.Entity{U: id("A", ""), Attrs: []api.Attr{{Name: "a", V: c.v}}}, `A::"" { a: `+c.want+` };`)
		entities.check(t, api.Entity{U: id("A", ""), Attrs: []api.Attr{{Name: "a", V: c.v}, {Name: "b", V: c.v}}}, `A::"" { a: `+c.want+`, b: `+c.want+` };`)
	}
	// The least number is written, but no text of it can be read.
	least := api.Entity{U: id("A", ""), Attrs: []api.Attr{{Name: "a", V: vLong(math.MinInt64)}}}
	entities.written(t, least, `A::"" { a: -9223372036854775808 };`)
	if _, err := parse.Entity(show.Entity(least)); err != api.ErrOver {
		t.Errorf("%v", err)
	}
}

func TestP602Entities(t *testing.T) {
	entities.check(t, api.Entity{U: id("A", "")}, `A::"" {};`)
	entities.check(t, api.Entity{U: id("A", ""), Parents: []api.Uid{}, Attrs: []api.Attr{}}, `A::"" {};`)
	entities.check(t, api.Entity{U: id("A", "\""), Parents: []api.Uid{id("B", "\n")}}, `A::"\"" in B::"\n" {};`)
	entities.check(t, api.Entity{U: id("in", "in"), Parents: []api.Uid{id("A", "z"), id("B", "x"), id("B", "y"), id("in", "")}}, `in::"in" in A::"z", B::"x", B::"y", in::"" {};`)
	entities.check(t, api.Entity{U: id("A", "x"), Attrs: []api.Attr{{Name: "a", V: vSet()}}}, `A::"x" { a: [] };`)
	entities.check(t, api.Entity{U: id("A", "x"), Parents: []api.Uid{id("B", "")}, Attrs: []api.Attr{{Name: "a", V: vLong(-1)}, {Name: "b", V: vBool(true)}, {Name: "b", V: vStr("};")}, {Name: "c", V: vUid("A", "x")}}}, `A::"x" in B::"" { a: -1, b: true, b: "};", c: A::"x" };`)
}

// At the bound of lex a text is read, and one byte beyond it none is.
func TestP603AtTheBoundOfLex(t *testing.T) {
	var e api.Entity
	e.U = id("A", "")
	grow := func(n int) string {
		e.Attrs = nil
		for at := 'a'; n > 0; at++ {
			e.Attrs = append(e.Attrs, api.Attr{Name: string(at), V: vStr(strings.Repeat("x", min(n, 30)))})
			n -= 30
		}
		return show.Entity(e)
	}
	n := 0
	for len(grow(n+1)) <= api.MaxText {
		n++
	}
	if s := grow(n); len(s) != api.MaxText {
		t.Fatalf("%d bytes", len(s))
	}
	entities.back(t, e)
	if _, err := parse.Entity(grow(n + 1)); err != api.ErrLong {
		t.Errorf("%v", err)
	}
}

func TestP603EntitiesOfTexts(t *testing.T) {
	entities.from(t, `A::"x"in B::"z",B::"y",B::"z"{n:- 5,m:[],k:[2,1,2],j:true,i:B::"q"};`, `A::"x" in B::"y", B::"z" { i: B::"q", j: true, k: [1, 2], m: [], n: -5 };`)
	entities.from(t, "A::\"\" // b\n{ } ;", `A::"" {};`)
	entities.from(t, `A::""{a:-0};`, `A::"" { a: 0 };`)
}
