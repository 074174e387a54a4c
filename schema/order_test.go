package schema_test

import (
	"fmt"
	"strings"
	"testing"

	"chancel/api"
)

// fault is one that full is given; where two write at one place the one that the document names first has the fault of the other, too.
type fault struct {
	what  string
	want  api.Errno
	spoil func(s *api.Schema)
}

// faultsOfKind are those of full's kinds but the first one, whose name others lean on.
func faultsOfKind(at int) []fault {
	of := func(spoil func(k *api.Kind)) func(s *api.Schema) {
		return func(s *api.Schema) { spoil(&s.Kinds[at]) }
	}
	l := []fault{
		{"no name", api.ErrName, of(func(k *api.Kind) { k.Name = "1" })},
		{"a word's name", api.ErrName, of(func(k *api.Kind) { k.Name = "Action" })},
		{"not behind", api.ErrIs, of(func(k *api.Kind) { k.Name = "A" })},
		{"as the one ahead", api.ErrIs, func(s *api.Schema) { s.Kinds[at].Name = s.Kinds[at-1].Name }},
		{"many fields", api.ErrMany, of(func(k *api.Kind) { k.Fields = append(k.Fields, fields("w x y z")...) })},
		{"many parents", api.ErrMany, of(func(k *api.Kind) { k.Parents = append(k.Parents, "B", "B", "B") })},
		{"first parent", api.ErrNone, of(func(k *api.Kind) { k.Parents[0] = "X" })},
		{"last parent", api.ErrNone, of(func(k *api.Kind) { k.Parents[1] = "" })},
	}
	return append(append(l, faultsOfField(at, 0)...), faultsOfField(at, 1)...)
}

func faultsOfField(at, i int) []fault {
	of := func(spoil func(f *api.Field)) func(s *api.Schema) {
		return func(s *api.Schema) { spoil(&s.Kinds[at].Fields[i]) }
	}
	l := []fault{{"no name", api.ErrName, of(func(f *api.Field) { f.Name = "" })}}
	if i > 0 {
		l = append(l, fault{"not behind", api.ErrIs, of(func(f *api.Field) { f.Name = "A" })})
	}
	l = append(l,
		fault{"kind too great", api.ErrKind, of(func(f *api.Field) { f.Type = api.Type{Kind: 6, Of: 1, Name: "X"} })},
		fault{"kind zero", api.ErrKind, of(func(f *api.Field) { f.Type = api.Type{Of: api.TUid, Name: "X"} })},
		fault{"set of zero", api.ErrKind, of(func(f *api.Field) { f.Type = api.Type{Kind: api.TSet, Name: "X"} })},
		fault{"set of sets", api.ErrKind, of(func(f *api.Field) { f.Type = api.Type{Kind: api.TSet, Of: api.TSet, Name: "X"} })},
		fault{"of", api.ErrArg, of(func(f *api.Field) { f.Type = api.Type{Kind: api.TUid, Of: api.TUid, Name: "X"} })},
		fault{"named", api.ErrArg, of(func(f *api.Field) { f.Type = api.Type{Kind: api.TLong, Name: "X"} })},
		fault{"set named", api.ErrArg, of(func(f *api.Field) { f.Type = api.Type{Kind: api.TSet, Of: api.TStr, Name: "X"} })},
		fault{"none", api.ErrNone, of(func(f *api.Field) { f.Type = ref("X") })},
		fault{"set of none", api.ErrNone, of(func(f *api.Field) { f.Type = setOfRefs("") })},
	)
	for k := range l {
		l[k].what = fmt.Sprintf("field %d: %s", i, l[k].what)
	}
	return l
}

func faultsOfAction(at int) []fault {
	of := func(spoil func(a *api.Action)) func(s *api.Schema) {
		return func(s *api.Schema) { spoil(&s.Actions[at]) }
	}
	seven := strings.Fields("X B B B B B X")
	l := []fault{{"no name", api.ErrName, of(func(a *api.Action) { a.Name = "" })}}
	if at > 0 {
		l = append(l,
			fault{"not behind", api.ErrIs, of(func(a *api.Action) { a.Name = "A" })},
			fault{"as the one ahead", api.ErrIs, func(s *api.Schema) { s.Actions[at].Name = s.Actions[at-1].Name }},
		)
	}
	return append(l,
		fault{"by none", api.ErrForm, of(func(a *api.Action) { a.Principals = nil })},
		fault{"upon none", api.ErrForm, of(func(a *api.Action) { a.Resources = []string{} })},
		fault{"by seven", api.ErrMany, of(func(a *api.Action) { a.Principals = seven })},
		fault{"upon seven", api.ErrMany, of(func(a *api.Action) { a.Resources = seven })},
		fault{"by another", api.ErrNone, of(func(a *api.Action) { a.Principals = strings.Fields("B X") })},
		fault{"upon another", api.ErrNone, of(func(a *api.Action) { a.Resources = strings.Fields("X B") })},
	)
}

// faults are all of them, in the order in which the document asks for them.
func faults() []fault {
	l := []fault{
		{"many kinds", api.ErrMany, func(s *api.Schema) { s.Kinds = append(s.Kinds, kinds("W X Y Z")...) }},
		{"many actions", api.ErrMany, func(s *api.Schema) {
			s.Actions = append(s.Actions, action("w", "B", "B"), action("x", "B", "B"), action("y", "B", "B"), action("z", "B", "B"))
		}},
	}
	add := func(what string, more []fault) {
		for _, f := range more {
			f.what = what + ": " + f.what
			l = append(l, f)
		}
	}
	add("kind 1", faultsOfKind(1))
	add("kind 2", faultsOfKind(2))
	add("action 0", faultsOfAction(0))
	add("action 1", faultsOfAction(1))
	return l
}

// leaning is a schema that the faults are laid upon: nobody names its kinds but the first one.
func leaning() api.Schema {
	return api.Schema{
		Kinds: []api.Kind{
			kind("B", "B", field("a", ref("B"))),
			kind("D", "B B", field("f", plain(api.TStr)), field("g", set(api.TLong))),
			kind("F", "B B", field("k", plain(api.TLong)), field("l", setOfRefs("B"))),
		},
		Actions: []api.Action{action("m", "B", "B"), action("n", "B", "B"), action("o", "B", "B")},
	}
}

func TestP1001EachFaultAlone(t *testing.T) {
	check(t, leaning(), api.OK)
	for _, f := range faults() {
		s := leaning()
		f.spoil(&s)
		t.Log(f.what)
		check(t, s, f.want)
	}
}

// Of two faults the one that the document names first is answered; it is laid last, so that it stands where both write.
func TestP6EachPairOfFaults(t *testing.T) {
	l := faults()
	for i, first := range l {
		for _, second := range l[i+1:] {
			s := leaning()
			second.spoil(&s)
			first.spoil(&s)
			check(t, s, first.want)
			if t.Failed() {
				t.Fatalf("%s; %s", first.what, second.what)
			}
		}
	}
}

// Of three and more: the first of them.
func TestP6AllFaultsFromOneOn(t *testing.T) {
	l := faults()
	for i, first := range l {
		s := leaning()
		for k := len(l) - 1; k >= i; k-- {
			l[k].spoil(&s)
		}
		check(t, s, first.want)
		if t.Failed() {
			t.Fatal(first.what)
		}
	}
}

// A name that none has is asked for where it stands, though the kind that has it may not be named so.
func TestP6NamesOfKindsThatMayNotBe(t *testing.T) {
	check(t, api.Schema{Kinds: []api.Kind{kind("A", "Bool 1"), kind("Bool", ""), kind("1", "")}}, api.ErrName)
	check(t, api.Schema{Kinds: []api.Kind{kind("A", "", field("a", ref("Set")), field("a", plain(0))), kind("Set", "")}}, api.ErrIs)
	check(t, api.Schema{Kinds: []api.Kind{kind("A", "", field("a", setOfRefs("")), field("b", plain(0))), {}}}, api.ErrKind)
}
