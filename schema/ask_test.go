package schema_test

import (
	"strings"
	"testing"

	"chancel/api"
	"chancel/schema"
)

// strangers are names of nothing in full; the last ones are names of other things there.
var strangers = []string{"", "A", "C", "E", "G", "BB", "d", "Action", "Long", "Set", " B", "B ", "\xff", "X", "e", "p"}

func TestP1002Kind(t *testing.T) {
	for _, s := range []api.Schema{full(), leaning()} {
		for _, k := range s.Kinds {
			if got, is := schema.Kind(s, k.Name); !is || dump(got) != dump(k) {
				t.Errorf("Kind(%q): %v, %s; want %s", k.Name, is, dump(got), dump(k))
			}
		}
	}
}

func TestP1002KindAtTheBounds(t *testing.T) {
	six := api.Schema{Kinds: kinds("A B C D E F")}
	six.Kinds[0].Parents, six.Kinds[5].Parents = strings.Fields("F B C A"), strings.Fields("A A A A")
	six.Kinds[0].Fields, six.Kinds[5].Fields = fields("a b c d e"), fields("f g h i j")
	check(t, six, api.OK)
	for _, k := range six.Kinds {
		if got, is := schema.Kind(six, k.Name); !is || dump(got) != dump(k) {
			t.Errorf("Kind(%q): %v, %s; want %s", k.Name, is, dump(got), dump(k))
		}
	}
}

func TestP1002NoKind(t *testing.T) {
	for _, name := range append(strangers, "m", "n", "o", "a", "k") {
		for _, s := range []api.Schema{full(), {}, {Actions: full().Actions}} {
			if got, is := schema.Kind(s, name); is || dump(got) != dump(api.Kind{}) {
				t.Errorf("Kind(%q): %v, %s", name, is, dump(got))
			}
		}
	}
}

func TestP1002Action(t *testing.T) {
	s := full()
	for _, a := range s.Actions {
		if got, is := schema.Action(s, a.Name); !is || dump(got) != dump(a) {
			t.Errorf("Action(%q): %v, %s; want %s", a.Name, is, dump(got), dump(a))
		}
	}
}

func TestP1002ActionAtTheBounds(t *testing.T) {
	s := api.Schema{Kinds: kinds("A B"), Actions: actions("A B a b c d")}
	s.Actions[0].Principals, s.Actions[5].Resources = strings.Fields("A B B A A B"), strings.Fields("B A A A A A")
	check(t, s, api.OK)
	for _, a := range s.Actions {
		if got, is := schema.Action(s, a.Name); !is || dump(got) != dump(a) {
			t.Errorf("Action(%q): %v, %s; want %s", a.Name, is, dump(got), dump(a))
		}
	}
}

func TestP1002NoAction(t *testing.T) {
	for _, name := range append(strangers, "B", "D", "F", "a", "k", "M", "mm") {
		for _, s := range []api.Schema{full(), {}, {Kinds: full().Kinds}} {
			if got, is := schema.Action(s, name); is || dump(got) != dump(api.Action{}) {
				t.Errorf("Action(%q): %v, %s", name, is, dump(got))
			}
		}
	}
}

func TestP1002Field(t *testing.T) {
	for _, k := range append(full().Kinds, kind("K", "", field("a", ref("A")), field("b", set(api.TBool)), field("c", plain(api.TLong)), field("d", setOfRefs("K")), field("e", plain(api.TStr)))) {
		for _, f := range k.Fields {
			if got, is := schema.Field(k, f.Name); !is || got != f.Type {
				t.Errorf("Field(%q): %v, %+v; want %+v", f.Name, is, got, f.Type)
			}
		}
	}
}

func TestP1002NoField(t *testing.T) {
	for _, k := range append(full().Kinds, api.Kind{}, api.Kind{Name: "m", Parents: []string{"n"}}) {
		for _, name := range append(strangers, "A", "B", "D", "F", "m", "n", "ab", "aa") {
			if got, is := schema.Field(k, name); is || got != (api.Type{}) {
				t.Errorf("Field(%q) of %s: %v, %+v", name, k.Name, is, got)
			}
		}
	}
}

// Requests of full that it allows: whatever their ids are, and whether or not their types are those of one principal or one resource alone.
func TestP1002FitsWhatIsAllowed(t *testing.T) {
	for _, x := range []string{"B m F", "D m F", "F n B", "B n B", "F n F", "B n F", "D o D"} {
		part := strings.Fields(x)
		for _, id := range []string{"", "a", "m", "\xff", strings.Repeat("é", 40)} {
			checkFits(t, full(), uid(part[0], id), uid("Action", part[1]), uid(part[2], id), api.OK)
			checkFits(t, full(), uid(part[0], "x"), uid("Action", part[1]), uid(part[2], id), api.OK)
		}
	}
}

func checkFits(t *testing.T, s api.Schema, p, a, r api.Uid, want api.Errno) {
	t.Helper()
	if got := schema.Fits(s, api.Request{Principal: p, Action: a, Resource: r}); got != want {
		t.Errorf("Fits: %v, %v, %v: %v; want %v", p, a, r, got, want)
	}
}

func TestP1002FitsNoAction(t *testing.T) {
	for _, kind := range []string{"", "action", "Actions", "Actio", "B", "D", "m", "\xff", "ACTION", " Action"} {
		checkFits(t, full(), uid("B", "x"), uid(kind, "m"), uid("F", "x"), api.ErrName)
		checkFits(t, full(), uid("X", "x"), uid(kind, "X"), uid("X", "x"), api.ErrName)
	}
	for _, id := range append(strangers, "B", "D", "F", "a", "k", "M", "mm") {
		checkFits(t, full(), uid("B", "x"), uid("Action", id), uid("F", "x"), api.ErrName)
		checkFits(t, full(), uid("X", "x"), uid("Action", id), uid("X", "x"), api.ErrName)
	}
	checkFits(t, api.Schema{}, uid("B", "x"), uid("Action", "m"), uid("F", "x"), api.ErrName)
	checkFits(t, api.Schema{}, api.Uid{}, api.Uid{}, api.Uid{}, api.ErrName)
	checkFits(t, full(), api.Uid{}, api.Uid{}, api.Uid{}, api.ErrName)
}

func TestP1002FitsOtherTypes(t *testing.T) {
	for _, x := range []string{"F m F", "B m B", "B m D", "F m B", "D n B", "B n D", "D n D", "B o D", "D o B", "F o F"} {
		part := strings.Fields(x)
		checkFits(t, full(), uid(part[0], "x"), uid("Action", part[1]), uid(part[2], "x"), api.ErrType)
	}
	for _, kind := range strangers {
		checkFits(t, full(), uid(kind, "x"), uid("Action", "m"), uid("F", "x"), api.ErrType)
		checkFits(t, full(), uid("B", "x"), uid("Action", "m"), uid(kind, "x"), api.ErrType)
		checkFits(t, full(), uid(kind, "B"), uid("Action", "m"), uid(kind, "F"), api.ErrType)
	}
}

// Types are held against those at the first, the last and each other place of six.
func TestP1002FitsAtTheBounds(t *testing.T) {
	s := api.Schema{Kinds: kinds("A B C D E F"), Actions: []api.Action{action("a", "F E D C B A", "A B C D E F"), action("z", "F E D C B E", "A B C D E B")}}
	check(t, s, api.OK)
	for _, p := range s.Kinds {
		for _, r := range s.Kinds {
			checkFits(t, s, uid(p.Name, ""), uid("Action", "a"), uid(r.Name, ""), api.OK)
			want := api.OK
			if p.Name == "A" || r.Name == "F" {
				want = api.ErrType
			}
			checkFits(t, s, uid(p.Name, ""), uid("Action", "z"), uid(r.Name, ""), want)
		}
	}
}

// The kinds are not asked: an action has the name that it has, though a kind has the same.
func TestP1002FitsAnActionNamedAsAKind(t *testing.T) {
	s := api.Schema{Kinds: kinds("A B"), Actions: []api.Action{action("A", "B", "A"), action("Action", "A", "B")}}
	check(t, s, api.OK)
	checkFits(t, s, uid("B", "A"), uid("Action", "A"), uid("A", "A"), api.OK)
	checkFits(t, s, uid("A", "A"), uid("Action", "Action"), uid("B", "A"), api.OK)
	checkFits(t, s, uid("A", "A"), uid("A", "Action"), uid("B", "A"), api.ErrName)
	checkFits(t, s, uid("A", "A"), uid("Action", "B"), uid("B", "A"), api.ErrName)
}
