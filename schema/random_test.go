package schema_test

import (
	"math/rand"
	"slices"
	"testing"

	"chancel/api"
	"chancel/lex"
	"chancel/schema"
)

// model tells the promise once more: all that is wrong, in the order in which the document asks for it.
type model struct {
	s     api.Schema
	found []api.Errno
}

func (m *model) ask(wrong bool, err api.Errno) {
	if wrong {
		m.found = append(m.found, err)
	}
}

func (m *model) hasKind(name string) bool {
	for _, k := range m.s.Kinds {
		if k.Name == name {
			return true
		}
	}
	return false
}

func (m *model) kinds() {
	for i, k := range m.s.Kinds {
		m.ask(!lex.Ident(k.Name), api.ErrName)
		m.ask(slices.Contains([]string{"Action", "Bool", "Long", "String", "Set"}, k.Name), api.ErrName)
		m.ask(i > 0 && m.s.Kinds[i-1].Name >= k.Name, api.ErrIs)
		m.ask(len(k.Fields) > 5, api.ErrMany)
		m.ask(len(k.Parents) > 4, api.ErrMany)
		for _, p := range k.Parents {
			m.ask(!m.hasKind(p), api.ErrNone)
		}
		for n, f := range k.Fields {
			m.ask(!lex.Ident(f.Name), api.ErrName)
			m.ask(n > 0 && k.Fields[n-1].Name >= f.Name, api.ErrIs)
			m.types(f.Type)
		}
	}
}

func (m *model) types(t api.Type) {
	named := t.Kind == 4 || t.Of == 4
	m.ask(t.Kind < 1 || t.Kind > 5, api.ErrKind)
	m.ask(t.Kind == 5 && (t.Of < 1 || t.Of > 4), api.ErrKind)
	m.ask(t.Kind != 5 && t.Of != 0, api.ErrArg)
	m.ask(t.Name != "" && !named, api.ErrArg)
	m.ask(named && !m.hasKind(t.Name), api.ErrNone)
}

func (m *model) actions() {
	for i, a := range m.s.Actions {
		m.ask(!lex.Ident(a.Name), api.ErrName)
		m.ask(i > 0 && m.s.Actions[i-1].Name >= a.Name, api.ErrIs)
		m.ask(len(a.Principals) == 0 || len(a.Resources) == 0, api.ErrForm)
		m.ask(len(a.Principals) > 6 || len(a.Resources) > 6, api.ErrMany)
		for _, name := range append(slices.Clone(a.Principals), a.Resources...) {
			m.ask(!m.hasKind(name), api.ErrNone)
		}
	}
}

func modelCheck(s api.Schema) api.Errno {
	m := &model{s: s}
	m.ask(len(s.Kinds) > 6 || len(s.Actions) > 6, api.ErrMany)
	m.kinds()
	m.actions()
	return append(m.found, api.OK)[0]
}

func pick[T any](r *rand.Rand, l []T) T { return l[r.Intn(len(l))] }

// some are up to most of a list's, as they come.
func some(r *rand.Rand, l []string, least, most int) []string {
	var all []string
	for range least + r.Intn(most-least+1) {
		all = append(all, pick(r, l))
	}
	return all
}

// each are some of a list's, each once, in order.
func each(r *rand.Rand, l []string, most int) []string {
	all := some(r, l, 0, most)
	slices.Sort(all)
	return slices.Compact(all)
}

// randomSchema is one that Check allows, but for actions where there are no kinds.
func randomSchema(r *rand.Rand) api.Schema {
	var s api.Schema
	kinds := each(r, []string{"A", "B", "C", "D", "E", "F", "a", "_"}, 6)
	if len(kinds) == 0 {
		kinds = []string{"A"}
	}
	for _, name := range kinds {
		k := api.Kind{Name: name, Parents: some(r, kinds, 0, 4)}
		for _, f := range each(r, []string{"a", "b", "c", "A", "B", "_"}, 5) {
			k.Fields = append(k.Fields, field(f, pick(r, []api.Type{plain(1), plain(2), plain(3), ref(pick(r, kinds)), set(1), set(2), set(3), setOfRefs(pick(r, kinds))})))
		}
		s.Kinds = append(s.Kinds, k)
	}
	for _, name := range each(r, []string{"a", "b", "c", "A", "B", "Action"}, 6) {
		s.Actions = append(s.Actions, api.Action{Name: name, Principals: some(r, kinds, 1, 6), Resources: some(r, kinds, 1, 6)})
	}
	return s
}

// spoilOnce changes one thing of a schema, so that it may be refused then.
func spoilOnce(r *rand.Rand, s *api.Schema) {
	word := pick(r, []string{"", "A", "B", "C", "D", "a", "b", "1", "Action", "Set", "X", "\xff", "z"})
	if len(s.Kinds) > 0 && r.Intn(2) == 0 {
		spoilKindOnce(r, &s.Kinds[r.Intn(len(s.Kinds))], word)
		return
	}
	if len(s.Actions) > 0 && r.Intn(3) > 0 {
		a := &s.Actions[r.Intn(len(s.Actions))]
		switch r.Intn(4) {
		case 0:
			a.Name = word
		case 1:
			a.Principals = some(r, []string{"A", "B", word}, 0, 7)
		case 2:
			a.Resources = some(r, []string{"A", "B", word}, 0, 7)
		case 3:
			s.Actions = append(s.Actions, *a)
		}
		return
	}
	switch r.Intn(4) {
	case 0:
		s.Kinds = s.Kinds[:r.Intn(len(s.Kinds)+1)]
	case 1:
		s.Kinds = append(s.Kinds, api.Kind{Name: word})
	case 2:
		r.Shuffle(len(s.Kinds), func(i, k int) { s.Kinds[i], s.Kinds[k] = s.Kinds[k], s.Kinds[i] })
	case 3:
		r.Shuffle(len(s.Actions), func(i, k int) { s.Actions[i], s.Actions[k] = s.Actions[k], s.Actions[i] })
	}
}

func spoilKindOnce(r *rand.Rand, k *api.Kind, word string) {
	if len(k.Fields) == 0 || r.Intn(3) == 0 {
		switch r.Intn(3) {
		case 0:
			k.Name = word
		case 1:
			k.Parents = some(r, []string{"A", "B", word}, 0, 5)
		case 2:
			k.Fields = append(k.Fields, field(word, plain(1+r.Intn(3))))
		}
		return
	}
	f := &k.Fields[r.Intn(len(k.Fields))]
	switch r.Intn(4) {
	case 0:
		f.Name = word
	case 1:
		f.Type.Kind = r.Intn(8) - 1
	case 2:
		f.Type.Of = r.Intn(8) - 1
	case 3:
		f.Type.Name = word
	}
}

func TestP1001AgainstAModel(t *testing.T) {
	r := rand.New(rand.NewSource(10))
	count := map[api.Errno]int{}
	for range 100000 {
		s := randomSchema(r)
		for range r.Intn(4) {
			spoilOnce(r, &s)
		}
		want := modelCheck(s)
		count[want]++
		if check(t, s, want); t.Failed() {
			return
		}
	}
	for _, e := range []api.Errno{api.OK, api.ErrMany, api.ErrName, api.ErrIs, api.ErrNone, api.ErrKind, api.ErrArg, api.ErrForm} {
		if count[e] < 100 {
			t.Errorf("%v: %d times only", e, count[e])
		}
	}
}

// What is the same is checked alike, wherever it lies, and is asked alike; what is not the same is told from it.
func TestP1003AlikeOfTheSame(t *testing.T) {
	r := rand.New(rand.NewSource(11))
	for range 20000 {
		s := randomSchema(r)
		for range r.Intn(3) {
			spoilOnce(r, &s)
		}
		other := roomySchema(s)
		if r.Intn(2) == 0 {
			other = copied(s)
			spoilOnce(r, &other)
		}
		same := schema.Same(s, other)
		if same != (dump(s) == dump(other)) || same != schema.Same(other, s) {
			t.Fatalf("Same: %v; %s; %s", same, dump(s), dump(other))
		}
		if same && schema.Check(s) != schema.Check(other) {
			t.Fatalf("Check: %v, %v; %s", schema.Check(s), schema.Check(other), dump(s))
		}
	}
}

// modelFits tells the promise of a schema whose names stand once.
func modelFits(s api.Schema, q api.Request) api.Errno {
	for _, a := range s.Actions {
		if q.Action != uid("Action", a.Name) {
			continue
		}
		by, upon := 0, 0
		for _, name := range a.Principals {
			if name == q.Principal.Type {
				by++
			}
		}
		for _, name := range a.Resources {
			if name == q.Resource.Type {
				upon++
			}
		}
		if by*upon == 0 {
			return api.ErrType
		}
		return api.OK
	}
	return api.ErrName
}

func TestP1002AgainstAModel(t *testing.T) {
	r := rand.New(rand.NewSource(12))
	words := []string{"A", "B", "C", "D", "E", "F", "a", "b", "c", "_", "Action", "", "X"}
	count := map[api.Errno]int{}
	for range 20000 {
		s := randomSchema(r)
		q := api.Request{Principal: uid(pick(r, words), pick(r, words)), Action: uid("Action", pick(r, words)), Resource: uid(pick(r, words), pick(r, words))}
		if r.Intn(5) == 0 {
			q.Action.Type = pick(r, words)
		}
		if len(s.Actions) > 0 && r.Intn(2) == 0 {
			a := pick(r, s.Actions)
			q = api.Request{Principal: uid(pick(r, a.Principals), "x"), Action: uid("Action", a.Name), Resource: uid(pick(r, append(words, a.Resources...)), "x")}
		}
		want := modelFits(s, q)
		count[want]++
		if checkFits(t, s, q.Principal, q.Action, q.Resource, want); t.Failed() {
			t.Fatal(dump(s))
		}
		for _, name := range words {
			checkAsked(t, s, name)
		}
		if t.Failed() {
			t.Fatal(dump(s))
		}
	}
	if count[api.OK] < 100 || count[api.ErrName] < 100 || count[api.ErrType] < 100 {
		t.Errorf("%v", count)
	}
}

// checkAsked holds what is told of a name against what stands there.
func checkAsked(t *testing.T, s api.Schema, name string) {
	t.Helper()
	var k api.Kind
	for _, one := range s.Kinds {
		if one.Name == name {
			k = one
		}
		var typ api.Type
		for _, f := range one.Fields {
			if f.Name == name {
				typ = f.Type
			}
		}
		if got, is := schema.Field(one, name); got != typ || is != (typ != api.Type{}) {
			t.Errorf("Field(%q) of %s: %v, %+v", name, one.Name, is, got)
		}
	}
	var a api.Action
	for _, one := range s.Actions {
		if one.Name == name {
			a = one
		}
	}
	if got, is := schema.Kind(s, name); dump(got) != dump(k) || is != (k.Name != "") {
		t.Errorf("Kind(%q): %v, %s", name, is, dump(got))
	}
	if got, is := schema.Action(s, name); dump(got) != dump(a) || is != (a.Name != "") {
		t.Errorf("Action(%q): %v, %s", name, is, dump(got))
	}
}

// Schemas that Check refuses are asked somehow; the calls end, and answer the same each time (P1, P3, P8).
func TestP1OddSchemas(t *testing.T) {
	r := rand.New(rand.NewSource(13))
	for range 2000 {
		s := randomSchema(r)
		if r.Intn(20) == 0 {
			s = odd()
		}
		for range 1 + r.Intn(6) {
			spoilOnce(r, &s)
		}
		if asked(s) != asked(s) {
			t.Fatalf("another answer: %s", dump(s))
		}
	}
}

// asked tells all that the calls answer of a schema.
func asked(s api.Schema) string {
	all := []any{schema.Check(s), schema.Same(s, s), schema.Same(s, odd())}
	for _, name := range []string{"", "A", "B", "a", "b", "1", "Action", "Set", "X", "\xff"} {
		k, isKind := schema.Kind(s, name)
		a, isAction := schema.Action(s, name)
		typ, isField := schema.Field(k, name)
		all = append(all, k, isKind, a, isAction, typ, isField)
		for _, other := range []string{"", "A", "\xff", "Action"} {
			all = append(all, schema.Fits(s, api.Request{Principal: uid(name, other), Action: uid(other, name), Resource: uid(other, other)}))
		}
	}
	return dump(all)
}
