package fit_test

import (
	"math/rand"
	"slices"
	"strings"
	"testing"

	"chancel/api"
	"chancel/ents"
	"chancel/fit"
	"chancel/schema"
	"chancel/show"
	"chancel/value"
)

func pick[T any](r *rand.Rand, l []T) T { return l[r.Intn(len(l))] }

// each are some of a list's, each once, rising.
func each(r *rand.Rand, l []string, least, most int) []string {
	var all []string
	for range least + r.Intn(most-least+1) {
		all = append(all, pick(r, l))
	}
	slices.Sort(all)
	return slices.Compact(all)
}

// maker makes what fits, and now and then what does not.
type maker struct {
	r     *rand.Rand
	s     api.Schema
	noise int // one of so many slips
}

func (m maker) slips() bool { return m.r.Intn(m.noise) == 0 }

func drawn(t *testing.T, r *rand.Rand, noise int) maker {
	t.Helper()
	var s api.Schema
	kinds := each(r, strings.Fields("A AA B a _"), 2, 6)
	words := []string{"Bool", "Long", "String"}
	words = append(words, kinds...)
	for _, w := range words {
		words = append(words, "Set "+w)
	}
	for _, name := range kinds {
		k := api.Kind{Name: name, Parents: each(r, kinds, 1, 4)}
		for _, f := range each(r, strings.Fields("a b c A _"), 0, 3) {
			k.Fields = append(k.Fields, api.Field{Name: f, Type: typeOf(pick(r, words))})
		}
		s.Kinds = append(s.Kinds, k)
	}
	if err := schema.Check(s); err != api.OK {
		t.Fatalf("%s: %v", show.Schema(s), err)
	}
	return maker{r, s, noise}
}

func (m maker) kind() string { return pick(m.r, m.s.Kinds).Name }

// single is a value of a kind of types that is no set.
func (m maker) single(kind int, name string) api.Value {
	switch kind {
	case api.TBool:
		return truth(m.r.Intn(2) == 0)
	case api.TLong:
		return long(m.r.Int63n(20) - 10)
	case api.TStr:
		return str(pick(m.r, []string{"", "a", "b", "é", "A"}))
	}
	if m.slips() {
		name = m.kind()
	}
	return ref(name, pick(m.r, []string{"", "a", "b", "c"}))
}

func (m maker) value(of api.Type) api.Value {
	if m.slips() {
		of = api.Type{Kind: 1 + m.r.Intn(5), Of: 1 + m.r.Intn(4), Name: m.kind()}
	}
	if of.Kind != api.TSet {
		return m.single(of.Kind, of.Name)
	}
	var l []api.Value
	for range m.r.Intn(5) {
		l = append(l, m.single(of.Of, of.Name))
	}
	v, _ := value.Set(l...)
	return v
}

func (m maker) entity(u api.Uid, l []api.Uid) api.Entity {
	e := api.Entity{U: u}
	k, _ := schema.Kind(m.s, u.Type)
	for _, f := range k.Fields {
		switch {
		case !m.slips():
			e.Attrs = append(e.Attrs, attr(f.Name, m.value(f.Type)))
		case m.r.Intn(2) == 0:
			e.Attrs = append(e.Attrs, attr(f.Name+"0", m.value(f.Type)))
		}
	}
	if len(e.Attrs) < api.MaxAttrs && m.slips() {
		e.Attrs = append(e.Attrs, attr("z", long(1)))
	}
	for _, p := range l {
		may := p != u && slices.Contains(k.Parents, p.Type)
		if len(e.Parents) < api.MaxParents && (may && m.r.Intn(3) == 0 || m.slips()) {
			e.Parents = append(e.Parents, p)
		}
	}
	return e
}

// uids are some, rising.
func (m maker) uids() []api.Uid {
	var l []api.Uid
	for _, k := range m.s.Kinds {
		for _, id := range each(m.r, []string{"", "a", "b", "c"}, 1, 3) {
			l = append(l, uid(k.Name, id))
		}
	}
	if m.slips() {
		l = append(l, uid("a", "zz"), uid("b", "b"))
	}
	slices.SortFunc(l, func(a, b api.Uid) int { return strings.Compare(a.Type+" "+a.Id, b.Type+" "+b.Id) })
	return l
}

// row is entities, mostly with parents that stand behind them, so that there are circles now and then only.
func (m maker) row() []api.Entity {
	var l []api.Entity
	all := m.uids()
	for i, u := range all {
		from := all[i:]
		if m.slips() {
			from = all
		}
		l = append(l, m.entity(u, from))
	}
	return slices.DeleteFunc(l, func(api.Entity) bool { return m.slips() })
}

// modelValue tells P1201 once more.
func modelValue(of api.Type, v api.Value) bool {
	if of.Kind == api.TSet {
		fits := v.Kind == api.VSet
		for _, x := range v.L {
			fits = fits && modelValue(api.Type{Kind: of.Of, Name: of.Name}, x)
		}
		return fits
	}
	return v.Kind == of.Kind && (of.Kind != api.TUid || v.U.Type == of.Name)
}

// modelEntity gathers all errors, in the order of P1202, and tells the first one.
func modelEntity(s api.Schema, l []api.Entity, e api.Entity) api.Errno {
	at := slices.IndexFunc(s.Kinds, func(k api.Kind) bool { return k.Name == e.U.Type })
	if at < 0 {
		return api.ErrName
	}
	var found []api.Errno
	fields := map[string]api.Type{}
	for _, f := range s.Kinds[at].Fields {
		fields[f.Name] = f.Type
	}
	for _, a := range e.Attrs {
		of, is := fields[a.Name]
		if !is {
			found = append([]api.Errno{api.ErrName}, found...)
		} else if !modelValue(of, a.V) {
			found = append(found, api.ErrType)
		}
		delete(fields, a.Name)
	}
	if len(fields) > 0 {
		found = append([]api.Errno{api.ErrName}, found...)
	}
	for _, p := range e.Parents {
		if !slices.Contains(s.Kinds[at].Parents, p.Type) {
			found = append(found, api.ErrType)
		}
		if !slices.ContainsFunc(l, func(x api.Entity) bool { return x.U == p }) {
			found = append(found, api.ErrGone)
		}
	}
	if leadsTo(l, e.U, e.Parents, len(l)+1) {
		found = append(found, api.ErrCircle)
	}
	return append(found, api.OK)[0]
}

// leadsTo goes from uids to their parents, to theirs, and so on, so many steps, till it meets u.
func leadsTo(l []api.Entity, u api.Uid, from []api.Uid, steps int) bool {
	for range steps {
		if slices.Contains(from, u) {
			return true
		}
		var next []api.Uid
		for _, e := range l {
			if slices.Contains(from, e.U) {
				next = append(next, e.Parents...)
			}
		}
		from = next
	}
	return false
}

func TestP1202AgainstAModel(t *testing.T) {
	r := rand.New(rand.NewSource(2))
	count, rows := map[api.Errno]int{}, map[api.Errno]int{}
	for range 20000 {
		m := drawn(t, r, 40)
		l := m.row()
		if err := ents.Check(l); err != api.OK {
			t.Fatalf("%v: %s", err, texts(l))
		}
		all := api.OK
		for _, e := range l {
			want := modelEntity(m.s, l, e)
			checkEntity(t, m.s, l, e, want)
			if count[want]++; all == api.OK {
				all = want
			}
		}
		rows[all]++
		checkAll(t, m.s, l, all)
		if all == api.OK {
			checkNobodyAboveItself(t, l)
		}
		other := m.entity(uid(m.kind(), pick(r, []string{"a", "q"})), m.uids())
		checkEntity(t, m.s, l, other, modelEntity(m.s, l, other))
		if t.Failed() {
			t.Fatal(show.Schema(m.s))
		}
	}
	for _, some := range []map[api.Errno]int{count, rows} {
		for _, err := range []api.Errno{api.OK, api.ErrName, api.ErrType, api.ErrGone, api.ErrCircle} {
			if some[err] < 200 {
				t.Errorf("%v: %v", err, some)
			}
		}
	}
}

func TestP1201AgainstAModel(t *testing.T) {
	r := rand.New(rand.NewSource(3))
	count := map[bool]int{}
	for range 3000 {
		m := drawn(t, r, 3)
		for _, k := range m.s.Kinds {
			for _, f := range k.Fields {
				v := m.value(f.Type)
				if err := value.Check(v); err != api.OK {
					t.Fatal(value.Text(v), err)
				}
				want := modelValue(f.Type, v)
				if count[want]++; fit.Value(m.s, f.Type, v) != want {
					t.Fatalf("%+v, %s: want %v", f.Type, value.Text(v), want)
				}
			}
		}
	}
	if min(count[true], count[false]) < 1000 {
		t.Errorf("%v", count)
	}
}

// Where all fit, one that Entity allows may take its place among them, and all fit again.
func TestP1203FittingOnesStayFitting(t *testing.T) {
	r := rand.New(rand.NewSource(4))
	put := 0
	for range 300 {
		m := drawn(t, r, 60)
		var l []api.Entity
		for range 60 {
			all := m.uids()
			e := m.entity(pick(r, all), all)
			if fit.Entity(m.s, l, e) != api.OK {
				continue
			}
			put++
			l = ents.Put(l, e)
			checkAll(t, m.s, l, api.OK)
			checkNobodyAboveItself(t, l)
			if t.Failed() {
				t.Fatal(show.Schema(m.s))
			}
		}
	}
	if put < 3000 {
		t.Errorf("%d", put)
	}
}
