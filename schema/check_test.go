package schema_test

import (
	"slices"
	"strings"
	"testing"

	"chancel/api"
)

// names are such, at their bounds and among the words of the language; none of them is a type's.
var names = []string{"A", "Z", "a", "z", "_", "__", "_9", "A0", "abcdefghijkl", "action", "bool", "Longs", "string", "set", "Se", "SET", "entity", "true", "in", "principal", "Entity", "Uid"}

// noNames are texts that lex.Ident refuses.
var noNames = []string{"", " ", "1", "9a", "a b", " a", "a ", "a.b", "a::b", "a-b", "é", "aé", "a\x00", "\xff", "a\xff", "abcdefghijklm", "Action ", "Set<Long>", strings.Repeat("a", 700)}

func TestP1001NothingAtAll(t *testing.T) {
	check(t, api.Schema{}, api.OK)
	check(t, api.Schema{Kinds: []api.Kind{}, Actions: []api.Action{}}, api.OK)
}

func TestP1001Full(t *testing.T) {
	check(t, full(), api.OK)
}

func TestP1001HowManyKinds(t *testing.T) {
	check(t, api.Schema{Kinds: kinds("A")}, api.OK)
	check(t, api.Schema{Kinds: kinds("A B C D E F")}, api.OK)
	check(t, api.Schema{Kinds: kinds("A B C D E F G")}, api.ErrMany)
	check(t, api.Schema{Kinds: make([]api.Kind, 7)}, api.ErrMany)
	check(t, api.Schema{Kinds: make([]api.Kind, 100000)}, api.ErrMany)
}

func TestP1001HowManyActions(t *testing.T) {
	check(t, api.Schema{Kinds: kinds("A"), Actions: actions("a")}, api.OK)
	check(t, api.Schema{Kinds: kinds("A"), Actions: actions("a b c d e f")}, api.OK)
	check(t, api.Schema{Kinds: kinds("A"), Actions: actions("a b c d e f g")}, api.ErrMany)
	check(t, api.Schema{Kinds: kinds("A B C D E F"), Actions: actions("a b c d e f")}, api.OK)
	check(t, api.Schema{Actions: make([]api.Action, 7)}, api.ErrMany)
	check(t, api.Schema{Actions: make([]api.Action, 100000)}, api.ErrMany)
}

func TestP1001NamesOfKinds(t *testing.T) {
	for _, name := range names {
		check(t, api.Schema{Kinds: []api.Kind{{Name: name}}}, api.OK)
	}
	for _, name := range append(noNames, "Action", "Bool", "Long", "String", "Set") {
		check(t, api.Schema{Kinds: []api.Kind{{Name: name}}}, api.ErrName)
		check(t, api.Schema{Kinds: []api.Kind{{Name: "A"}, {Name: name}}}, api.ErrName)
		check(t, api.Schema{Kinds: []api.Kind{{Name: "A"}, {Name: "z"}, {Name: name}}}, api.ErrName)
	}
}

func TestP1001NamesOfFields(t *testing.T) {
	// The words that no kind may have are names here as any other.
	for _, name := range append(names, "Action", "Bool", "Long", "String", "Set") {
		check(t, api.Schema{Kinds: []api.Kind{kind("A", "", fields(name)...)}}, api.OK)
	}
	for _, name := range noNames {
		check(t, api.Schema{Kinds: []api.Kind{kind("A", "", field(name, plain(api.TLong)))}}, api.ErrName)
		check(t, api.Schema{Kinds: []api.Kind{kind("A", "", field("A", plain(api.TLong)), field(name, plain(api.TLong)))}}, api.ErrName)
	}
}

func TestP1001NamesOfActions(t *testing.T) {
	for _, name := range append(names, "Action", "Bool", "Long", "String", "Set") {
		check(t, api.Schema{Kinds: kinds("A"), Actions: actions(name)}, api.OK)
	}
	for _, name := range noNames {
		check(t, api.Schema{Kinds: kinds("A"), Actions: []api.Action{{Name: name, Principals: []string{"A"}, Resources: []string{"A"}}}}, api.ErrName)
		check(t, api.Schema{Kinds: kinds("A"), Actions: []api.Action{action("a", "A", "A"), {Name: name, Principals: []string{"A"}, Resources: []string{"A"}}}}, api.ErrName)
	}
}

// rising are rows of names by the order of their bytes; falling are such as are not, in their last name alone.
var (
	rising  = []string{"A B", "A AA", "A a", "Z a", "A9 AA", "A_ Aa", "AZ A_", "_ a", "Z _", "A B C D", "ab abc b"}
	falling = []string{"A A", "B A", "AA A", "a A", "a Z", "AA A9", "Aa A_", "A_ AZ", "a _", "_ Z", "A B B", "A C B", "A B A", "A B C D A", "A B C D D"}
)

func TestP1001Order(t *testing.T) {
	for _, row := range rising {
		check(t, api.Schema{Kinds: kinds(row)}, api.OK)
		check(t, api.Schema{Kinds: []api.Kind{kind("A", "", fields(row)...)}}, api.OK)
		check(t, api.Schema{Kinds: kinds("A"), Actions: actions(row)}, api.OK)
	}
	for _, row := range falling {
		check(t, api.Schema{Kinds: kinds(row)}, api.ErrIs)
		check(t, api.Schema{Kinds: []api.Kind{kind("A", "", fields(row)...)}}, api.ErrIs)
		check(t, api.Schema{Kinds: kinds("A"), Actions: actions(row)}, api.ErrIs)
	}
}

// Fields of two kinds, and kinds, fields and actions among themselves, may have one name.
func TestP1001NamesOfOtherThings(t *testing.T) {
	two := api.Schema{Kinds: []api.Kind{kind("A", "", fields("B C")...), kind("B", "", fields("A B")...)}, Actions: actions("A B")}
	check(t, two, api.OK)
}

func TestP1001HowManyFields(t *testing.T) {
	for _, at := range []int{0, 1} {
		s := api.Schema{Kinds: kinds("A B")}
		s.Kinds[at].Fields = fields("a b c d e")
		check(t, s, api.OK)
		s.Kinds[at].Fields = fields("a b c d e f")
		check(t, s, api.ErrMany)
		s.Kinds[at].Fields = make([]api.Field, 6)
		check(t, s, api.ErrMany)
	}
}

func TestP1001HowManyParents(t *testing.T) {
	for _, at := range []int{0, 1} {
		s := api.Schema{Kinds: kinds("A B")}
		for _, l := range []string{"A", "A B", "B A", "A A A A", "B A B A"} {
			s.Kinds[at].Parents = strings.Fields(l)
			check(t, s, api.OK)
		}
		for _, l := range []string{"A A A A A", "A B A B A", "X X X X X"} {
			s.Kinds[at].Parents = strings.Fields(l)
			check(t, s, api.ErrMany)
		}
	}
}

func TestP1001Parents(t *testing.T) {
	for _, at := range []int{0, 1, 2} {
		s := api.Schema{Kinds: kinds("A B C"), Actions: actions("a")}
		for _, l := range []string{"A", "B", "C", "C B A", "A A", "A B C A"} {
			s.Kinds[at].Parents = strings.Fields(l)
			check(t, s, api.OK)
		}
		for _, name := range append(noNames, "X", "AA", "a", "Action", "Long", "Bool") {
			for place := range 4 {
				s.Kinds[at].Parents = []string{"A", "B", "C", "A"}
				s.Kinds[at].Parents[place] = name
				check(t, s, api.ErrNone)
			}
		}
	}
}

func TestP1001Types(t *testing.T) {
	allowed := []api.Type{plain(api.TBool), plain(api.TLong), plain(api.TStr), ref("A"), ref("B"), set(api.TBool), set(api.TLong), set(api.TStr), setOfRefs("A"), setOfRefs("B")}
	for k := -2; k <= 8; k++ {
		for of := -2; of <= 8; of++ {
			for _, name := range []string{"", "A", "B", "C", "Action", "Long", "\xff"} {
				typ := api.Type{Kind: k, Of: of, Name: name}
				want := faultOfType(typ)
				if slices.Contains(allowed, typ) != (want == api.OK) {
					t.Fatalf("%+v: %v", typ, want)
				}
				checkTypeEverywhere(t, typ, want)
			}
		}
	}
}

// faultOfType tells what Check finds of a type where A and B are the kinds, rule by rule.
func faultOfType(t api.Type) api.Errno {
	known := t.Name == "A" || t.Name == "B"
	isUid := t.Kind == api.TUid || t.Of == api.TUid
	switch {
	case t.Kind < api.TBool, t.Kind > api.TSet:
		return api.ErrKind
	case t.Kind == api.TSet && (t.Of < api.TBool || t.Of > api.TUid):
		return api.ErrKind
	case t.Kind != api.TSet && t.Of != 0:
		return api.ErrArg
	case t.Name != "" && !isUid:
		return api.ErrArg
	case isUid && !known:
		return api.ErrNone
	}
	return api.OK
}

// checkTypeEverywhere has the type as that of each field of each kind.
func checkTypeEverywhere(t *testing.T, typ api.Type, want api.Errno) {
	t.Helper()
	for i := range 2 {
		for k := range 3 {
			s := api.Schema{Kinds: []api.Kind{kind("A", "", fields("a b c")...), kind("B", "", fields("a b c")...)}}
			s.Kinds[i].Fields[k].Type = typ
			check(t, s, want)
		}
	}
}

func TestP1001TypesAtTheEdges(t *testing.T) {
	for _, n := range []int{-1 << 63, -1 << 32, -5, 6, 1<<32 + 1, 1<<32 + 5, 1<<63 - 1} {
		checkTypeEverywhere(t, api.Type{Kind: n}, api.ErrKind)
		checkTypeEverywhere(t, set(n), api.ErrKind)
		checkTypeEverywhere(t, api.Type{Kind: api.TLong, Of: n}, api.ErrArg)
		checkTypeEverywhere(t, api.Type{Kind: api.TUid, Of: n, Name: "A"}, api.ErrArg)
	}
}

func TestP1001ByAndUpon(t *testing.T) {
	for at := range 2 {
		for _, of := range []func(a *api.Action) *[]string{
			func(a *api.Action) *[]string { return &a.Principals },
			func(a *api.Action) *[]string { return &a.Resources },
		} {
			s := api.Schema{Kinds: kinds("A B"), Actions: actions("a b")}
			l := of(&s.Actions[at])
			for _, allowed := range []string{"A", "B", "B A", "A A", "A B A B A B"} {
				*l = strings.Fields(allowed)
				check(t, s, api.OK)
			}
			for _, none := range [][]string{nil, {}, make([]string, 0, 3)} {
				*l = none
				check(t, s, api.ErrForm)
			}
			*l = strings.Fields("A B A B A B A")
			check(t, s, api.ErrMany)
			*l = make([]string, 7)
			check(t, s, api.ErrMany)
			for _, name := range append(noNames, "X", "AA", "a", "b", "Action", "Long") {
				for place := range 6 {
					*l = strings.Fields("A B A B A B")
					(*l)[place] = name
					check(t, s, api.ErrNone)
				}
			}
		}
	}
}

func TestP1001NoKinds(t *testing.T) {
	check(t, api.Schema{Actions: actions("a")}, api.ErrNone)
	check(t, api.Schema{Actions: []api.Action{{Name: "a"}}}, api.ErrForm)
	check(t, api.Schema{Actions: []api.Action{action("a", "Action", "Action")}}, api.ErrNone)
}
