package store_test

import (
	"fmt"
	"reflect"
	"testing"

	"chancel/api"
	"chancel/decide"
	"chancel/store"
)

// list is one of those that a thing has, spare room and all, whatever its elements are.
type list struct {
	path string
	v    reflect.Value
}

// listsOf tells all lists of a thing, those within lists too; of spare room just what lies in it.
func listsOf(x any) []list {
	var all []list
	collect(&all, "", reflect.ValueOf(x))
	return all
}

func collect(all *[]list, path string, v reflect.Value) {
	switch v.Kind() {
	case reflect.Slice:
		*all = append(*all, list{path, v.Slice(0, v.Cap())})
		for i := range v.Len() {
			collect(all, fmt.Sprint(path, "/", i), v.Index(i))
		}
	case reflect.Struct:
		for i := range v.NumField() {
			collect(all, path+"."+v.Type().Field(i).Name, v.Field(i))
		}
	}
}

// told tells each element by itself: the lists that it has are told as such.
func (l list) told() string {
	all := l.path
	for i := range l.v.Len() {
		all += " "
		tellPlain(&all, l.v.Index(i))
	}
	return all
}

func tellPlain(all *string, v reflect.Value) {
	switch v.Kind() {
	case reflect.Slice:
	case reflect.Struct:
		for i := range v.NumField() {
			tellPlain(all, v.Field(i))
		}
	default:
		*all += fmt.Sprintf("%#v,", v)
	}
}

// spoil writes into each element, but leaves the lists that it has where they are.
func (l list) spoil() {
	for i := range l.v.Len() {
		spoilPlain(l.v.Index(i))
	}
}

func spoilPlain(v reflect.Value) {
	switch v.Kind() {
	case reflect.Slice:
	case reflect.Struct:
		for i := range v.NumField() {
			spoilPlain(v.Field(i))
		}
	case reflect.String:
		v.SetString("spoilt")
	case reflect.Bool:
		v.SetBool(!v.Bool())
	default:
		v.SetInt(99)
	}
}

func toldOf(l []list) string {
	all := ""
	for _, one := range l {
		all += one.told() + "\n"
	}
	return all
}

// roomy copies a thing; each list in it has room behind it, in which stands what is wrong in every way.
func roomy[T any](x T) T {
	var own T
	layRoomy(reflect.ValueOf(&own).Elem(), reflect.ValueOf(x))
	return own
}

func layRoomy(to, from reflect.Value) {
	switch from.Kind() {
	case reflect.Slice:
		n := from.Len()
		all := reflect.MakeSlice(from.Type(), n+2, n+2)
		for i := range n {
			layRoomy(all.Index(i), from.Index(i))
		}
		list{"", all.Slice(n, n+2)}.spoil()
		to.Set(all.Slice(0, n))
	case reflect.Struct:
		for i := range from.NumField() {
			layRoomy(to.Field(i), from.Field(i))
		}
	default:
		to.Set(from)
	}
}

// rich is a store with lists of every kind that may stand in it.
func rich(t testing.TB) *store.Store {
	t.Helper()
	s := usual(t)
	takes(t, s, api.CPut, "r", `permit(principal, action, resource) when { [A::"a", A::"b"].contains(A::"a") && ["x", "y"] == ["z"] } unless { if true then A::"a" in [B::"b"] else !true };`)
	takes(t, s, api.CPut, "s", `forbid(principal == C::"c", action, resource) when { principal.l == resource.l } when { principal.s like "*" };`)
	takesEach(t, s, api.CEntity, `A::"d" in A::"a", A::"b", B::"b" { n: 5 };`, `C::"d" in A::"a" { b: false, l: [3, 4, 5], s: "", u: B::"b" };`)
	return s
}

// handOuts are what a store answers that has lists.
func handOuts() map[string]func(s *store.Store) any {
	return map[string]func(s *store.Store) any{
		"Schema":   func(s *store.Store) any { return s.Schema() },
		"Policies": func(s *store.Store) any { return s.Policies() },
		"Entities": func(s *store.Store) any { return s.Entities() },
		"Ask":      func(s *store.Store) any { return s.Ask(request("A a go B b")) },
		"Ask of C": func(s *store.Store) any { return s.Ask(request("C c stop C c")) },
		"all":      func(s *store.Store) any { return worldOf(s) },
	}
}

// Nothing that is answered shares memory with the store, with another answer, or with another list of the same one; so each list of each answer is written into, spare room and all.
func TestP2AnswersAreNewMemory(t *testing.T) {
	for how, s := range map[string]*store.Store{"commands": rich(t), "Of": checkOf(t, "rich", worldOf(rich(t)), api.OK)} {
		before := shown(s)
		for name, call := range handOuts() {
			was := toldOf(listsOf(call(s)))
			other := listsOf(call(s))
			for i := range other {
				answer := listsOf(call(s))
				answer[i].spoil()
				if answer[i].v.Len() > 0 && answer[i].told() == other[i].told() {
					t.Fatalf("%s: %s is not spoilt", name, answer[i].path)
				}
				for k := range answer {
					if k != i && answer[k].told() != other[k].told() {
						t.Errorf("%s, by %s: %s and %s share", name, how, answer[i].path, answer[k].path)
					}
				}
			}
			if toldOf(other) != was {
				t.Errorf("%s, by %s: two answers share", name, how)
			}
			if shown(s) != before {
				t.Fatalf("%s, by %s: the store is changed: %s; was %s", name, how, shown(s), before)
			}
		}
	}
}

// What was answered stays as it is, whatever is done to the store then.
func TestP2AnswersStay(t *testing.T) {
	s := rich(t)
	var answers [][]list
	var was []string
	for _, call := range handOuts() {
		answers = append(answers, listsOf(call(s)))
		was = append(was, toldOf(answers[len(answers)-1]))
	}
	takes(t, s, api.CPut, "r", forbid)
	takes(t, s, api.CPut, "a", forbid)
	takes(t, s, api.CDrop, "s", "")
	takesEach(t, s, api.CEntity, `A::"d" { n: 9 };`, `A::"0" in A::"a", A::"b" { n: 9 };`, `B::"c" {};`)
	takesEach(t, s, api.CGone, `A::"d"`, `C::"d"`)
	takes(t, s, api.CSchema, "", source+`action a: A -> A;`)
	for i, one := range answers {
		if toldOf(one) != was[i] {
			t.Errorf("%s; was %s", toldOf(one), was[i])
		}
	}
}

// What is handed in to Of is neither changed nor kept, its spare room neither; what lies in that room is not asked.
func TestP2OfLeavesAlone(t *testing.T) {
	w := roomy(worldOf(rich(t)))
	lists := listsOf(w)
	was := toldOf(lists)
	s, err := store.Of(w.S, w.Ps, w.Es)
	if err != api.OK || shown(s) != shown(rich(t)) {
		t.Fatalf("%v: %s; want %s", err, shown(s), shown(rich(t)))
	}
	if toldOf(lists) != was {
		t.Error("changed")
	}
	before := shown(s)
	for _, one := range lists {
		one.spoil()
		if shown(s) != before {
			t.Fatalf("%s is kept", one.path)
		}
	}
	w = roomy(worldOf(rich(t)))
	s, _ = store.Of(w.S, w.Ps, w.Es)
	lists = listsOf(w)
	was = toldOf(lists)
	for _, call := range handOuts() {
		for _, one := range listsOf(call(s)) {
			one.spoil()
		}
	}
	takes(t, s, api.CPut, "r", forbid)
	takes(t, s, api.CPut, "t", forbid)
	takesEach(t, s, api.CEntity, `A::"d" { n: 9 };`, `B::"z" {};`)
	takes(t, s, api.CGone, "", `C::"d"`)
	takes(t, s, api.CSchema, "", source)
	if toldOf(lists) != was {
		t.Error("changed behind Of")
	}
}

// Nothing of what is refused is changed, either.
func TestP2OfLeavesAloneWhatItRefuses(t *testing.T) {
	for what, spoilt := range unsound(t) {
		w := worldOf(usual(t))
		spoilt(&w)
		w = roomy(w)
		lists := listsOf(w)
		was := toldOf(lists)
		checkOf(t, what, w, api.ErrBad)
		w.Ps[0].Name = "1"
		checkOf(t, what, w, api.ErrName)
		w.Ps[0].Name = "f"
		if toldOf(lists) != was {
			t.Errorf("%s: changed", what)
		}
	}
}

// Lists that are shared among what is handed in, or stand in one another's spare room, are apart in what is kept.
func TestP2OfListsThatAreShared(t *testing.T) {
	w := worldOf(rich(t))
	w.S.Actions[0].Principals = w.S.Actions[0].Resources[:1]
	w.S.Kinds[1].Parents = w.S.Kinds[0].Parents[1:]
	w.Ps[2].P.Conds = append(w.Ps[2].P.Conds[:1], w.Ps[2].P.Conds[0])
	w.Ps[3].P.Conds = w.Ps[2].P.Conds[1:]
	w.Ps = append(w.Ps, decide.Named{Name: "t", P: w.Ps[2].P})
	w.Es[1].Attrs = w.Es[0].Attrs
	w.Es[4].Attrs = w.Es[5].Attrs
	w.Es[1].Parents = nil
	w.Es[2].Parents = w.Es[0].Parents
	s := checkOf(t, "shared", w, api.OK)
	before := shown(s)
	count := len(listsOf(worldOf(s)))
	for i := range count {
		answer, other := listsOf(worldOf(s)), listsOf(worldOf(s))
		answer[i].spoil()
		for k := range answer {
			if k != i && answer[k].told() != other[k].told() {
				t.Errorf("%s and %s share", answer[i].path, answer[k].path)
			}
		}
	}
	for _, one := range listsOf(w) {
		one.spoil()
	}
	if shown(s) != before {
		t.Error("kept")
	}
}

// One store shares nothing with another one that was made of what it answered.
func TestP7StoresAreApart(t *testing.T) {
	s := rich(t)
	o := checkOf(t, "rich", worldOf(s), api.OK)
	before := shown(s)
	takes(t, o, api.CPut, "r", forbid)
	takes(t, o, api.CDrop, "p", "")
	takesEach(t, o, api.CEntity, `A::"d" { n: 9 };`, `B::"z" {};`)
	takesEach(t, o, api.CGone, `A::"d"`, `C::"d"`, `C::"c"`, `A::"a"`, `A::"b"`, `B::"b"`, `B::"z"`)
	takes(t, o, api.CSchema, "", source+`action a: A -> A;`)
	if shown(s) != before {
		t.Errorf("%s; was %s", shown(s), before)
	}
}
