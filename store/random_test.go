package store_test

import (
	"cmp"
	"fmt"
	"math/rand"
	"slices"
	"strings"
	"testing"

	"chancel/api"
	"chancel/decide"
	"chancel/ents"
	"chancel/fit"
	"chancel/lex"
	"chancel/parse"
	"chancel/schema"
	"chancel/show"
	"chancel/store"
	"chancel/types"
)

func pick[T any](r *rand.Rand, l ...T) T { return l[r.Intn(len(l))] }

// change is a command as it is handed in.
type change struct {
	kind       int
	name, text string
}

func randomId(r *rand.Rand) string {
	return pick(r, "A", "B") + `::"` + pick(r, "a", "b", "c", "d", "e", "f", "g", "h", "i", "j") + `"`
}

// randomIn is some text's parents, each one of those that one draws.
func randomIn(r *rand.Rand, one func() string) string {
	switch r.Intn(3) {
	case 0:
		return ` in ` + one()
	case 1:
		return ` in ` + one() + `, ` + one()
	}
	return ``
}

func randomSchema(r *rand.Rand) string {
	kind := func() string { return pick(r, "A", "A", "A", "B", "B", "B", "C") }
	field := func() string { return pick(r, "n: Long", "n: Long", "n: Long", "n: Bool", "m: Long") }
	text := `entity A in A, B { ` + field() + ` }; `
	if r.Intn(3) == 0 {
		text = `entity A` + randomIn(r, kind) + ` { ` + field() + ` }; `
	}
	text += `entity B` + pick(r, "", "", " in B", " in A") + ` {}; `
	if r.Intn(2) == 0 {
		text += pick(r, `entity C {}; `, `entity C {}; `, `entity C in X {}; `, `entity A {}; `)
	}
	text += pick(r, `action go: A -> A, B; `, `action go: A -> B; `, `action go: A, B -> B; `)
	return text + pick(r, ``, `action stop: A -> A;`, `action stop: B -> A;`, `action stop: A;`)
}

func randomPolicy(r *rand.Rand) string {
	scope := func() string { return pick(r, ``, ``, ` == `+randomId(r), ` in `+randomId(r)) }
	text := pick(r, `permit`, `permit`, `forbid`) + `(principal` + scope() + `, action` + pick(r, ``, ` == Action::"go"`, ` in Action::"stop"`) + `, resource` + scope() + `)`
	for range r.Intn(3) {
		text += pick(r, ` when { `, ` unless { `) + pick(r,
			`principal.n == 1`, `principal.n + 9223372036854775807 > 0`, `principal in resource`, `resource has n`, randomId(r)+` in principal`, `[principal, resource] == []`,
			`A::"a".n < A::"b".n`, `true`, `1`, `principal.n`, `true +`, `if principal.n == 1 then resource == B::"a" else false`) + ` }`
	}
	return text + pick(r, `;`, `;`, `;`, `;`, `;`, `;`, `;`, ``)
}

// randomEntity is mostly one that fits source.
func randomEntity(r *rand.Rand) string {
	u := randomId(r)
	fine := strings.TrimPrefix(withAttrs(u), u)
	in := randomIn(r, func() string { return pick(r, "", "", `A::"a", `) + randomId(r) })
	if strings.HasPrefix(u, "B") && r.Intn(8) > 0 {
		in = ``
	}
	return u + in + pick(r, fine, fine, fine, fine, fine, fine, ` { n: 9223372036854775807 };`, ` { n: true };`, ` { m: 1 };`, ` { n: 1, n: 1 };`, ` { n: 1 }`)
}

func randomChange(r *rand.Rand) change {
	name := pick(r, "", "", "", "", "", "", "", "a")
	switch n := r.Intn(100); {
	case n < 7:
		return change{api.CSchema, name, randomSchema(r)}
	case n < 40:
		return change{api.CPut, pick(r, "a", "b", "c", "d", "e", "f", "g", "h", "i", "B", "_", ""), randomPolicy(r)}
	case n < 48:
		return change{api.CDrop, pick(r, "a", "b", "c", "d", "e", "B", ""), name}
	case n < 92:
		return change{api.CEntity, name, randomEntity(r)}
	case n < 98:
		return change{api.CGone, name, randomId(r) + pick(r, "", "", "", "", "", ";")}
	}
	return change{pick(r, -1, 0, 6), name, randomEntity(r)}
}

// first tells the first error of some.
func first(errs ...api.Errno) api.Errno {
	return cmp.Or(errs...)
}

// where is an error, if it applies.
func where(is bool, err api.Errno) api.Errno {
	if is {
		return err
	}
	return api.OK
}

// apply tells the promise once more, of plain lists: all errors in their order, and what comes of it.
func (w *world) apply(c change) api.Errno {
	spare := where(c.name != "", api.ErrArg)
	switch c.kind {
	case api.CSchema:
		k, err := parse.Schema(c.text)
		errs := []api.Errno{spare, err, schema.Check(k)}
		for _, p := range w.Ps {
			errs = append(errs, types.Check(k, p.P))
		}
		return w.becomes(world{k, w.Ps, w.Es}, append(errs, fit.All(k, w.Es))...)
	case api.CPut:
		p, err := parse.Policy(c.text)
		ps := append(w.withoutPolicy(c.name), decide.Named{Name: c.name, P: p})
		slices.SortFunc(ps, func(a, b decide.Named) int { return cmp.Compare(a.Name, b.Name) })
		return w.becomes(world{w.S, ps, w.Es}, where(!lex.Ident(c.name), api.ErrName), err, types.Check(w.S, p), where(len(ps) > 8, api.ErrMany))
	case api.CDrop:
		ps := w.withoutPolicy(c.name)
		return w.becomes(world{w.S, ps, w.Es}, where(c.text != "", api.ErrArg), where(len(ps) == len(w.Ps), api.ErrNone))
	case api.CEntity:
		e, err := parse.Entity(c.text)
		es := append(w.withoutEntity(e.U), e)
		slices.SortFunc(es, func(a, b api.Entity) int {
			return cmp.Or(cmp.Compare(a.U.Type, b.U.Type), cmp.Compare(a.U.Id, b.U.Id))
		})
		return w.becomes(world{w.S, w.Ps, es}, spare, err, ents.Check([]api.Entity{e}), fit.Entity(w.S, w.Es, e), where(len(es) > 16, api.ErrMany))
	case api.CGone:
		u, err := parse.Uid(c.text)
		es := w.withoutEntity(u)
		busy := slices.ContainsFunc(w.Es, func(e api.Entity) bool { return slices.Contains(e.Parents, u) })
		return w.becomes(world{w.S, w.Ps, es}, spare, err, where(len(es) == len(w.Es), api.ErrNone), where(busy, api.ErrBusy))
	}
	return api.ErrKind
}

func (w *world) becomes(next world, errs ...api.Errno) api.Errno {
	err := first(errs...)
	if err == api.OK {
		*w = next
	}
	return err
}

func (w *world) withoutPolicy(name string) []decide.Named {
	return slices.DeleteFunc(slices.Clone(w.Ps), func(p decide.Named) bool { return p.Name == name })
}

func (w *world) withoutEntity(u api.Uid) []api.Entity {
	return slices.DeleteFunc(slices.Clone(w.Es), func(e api.Entity) bool { return e.U == u })
}

// allRequests are by and upon all that random commands name, and some that they don't.
func allRequests() []api.Request {
	var uids []api.Uid
	for _, kind := range []string{"A", "B", "C"} {
		for _, id := range []string{"a", "b", "c", "d", "z"} {
			uids = append(uids, uid(kind, id))
		}
	}
	var l []api.Request
	for _, principal := range uids {
		for _, action := range []string{"go", "stop", "x"} {
			for _, resource := range uids {
				l = append(l, api.Request{Principal: principal, Action: uid("Action", action), Resource: resource})
			}
		}
	}
	return l
}

// checkRead tells whether what a store keeps is read again as it is, of the text that shows it (T6).
func checkRead(t *testing.T, w world) {
	t.Helper()
	read := world{Ps: slices.Clone(w.Ps), Es: slices.Clone(w.Es)}
	var err api.Errno
	read.S, err = parse.Schema(show.Schema(w.S))
	errs := []api.Errno{err}
	for i, p := range w.Ps {
		read.Ps[i].P, err = parse.Policy(show.Policy(p.P))
		errs = append(errs, err)
	}
	for i, e := range w.Es {
		read.Es[i], err = parse.Entity(show.Entity(e))
		errs = append(errs, err)
	}
	if first(errs...) != api.OK || dump(read) != dump(w) {
		t.Errorf("%v: read %s; want %s", errs, dump(read), dump(w))
	}
}

func TestP1502And1504AgainstAModel(t *testing.T) {
	r := rand.New(rand.NewSource(15))
	verdicts, erred := map[string]int{}, map[api.Errno]int{}
	mostPolicies, mostEntities := 0, 0
	for range 60 {
		s, w := store.New(), world{}
		for i := range 200 {
			c := randomChange(r)
			if i == 0 {
				c = change{api.CSchema, "", source}
			}
			want := w.apply(c)
			if got := s.Apply(c.kind, c.name, c.text); got != want {
				t.Fatalf("%+v: %v; want %v; of\n%s", c, got, want, kept(s))
			}
			verdicts[fmt.Sprint(c.kind, want)]++
			if got := worldOf(s); dump(got) != dump(w) || !s.Sound() {
				t.Fatalf("%+v: %s; want %s", c, dump(got), dump(w))
			}
			mostPolicies, mostEntities = max(mostPolicies, len(w.Ps)), max(mostEntities, len(w.Es))
			q := pick(r, allRequests()...)
			if got := told(s.Ask(q)); got != told(decide.All(w.Es, q, w.Ps)) {
				t.Fatalf("%v: %s; of\n%s", q, got, kept(s))
			}
			if i%20 == 19 {
				checkRead(t, w)
				checkOf(t, "random", w, api.OK)
				for err, n := range checkErrors(t, s, allRequests()) {
					erred[err] += n
				}
			}
		}
	}
	for _, x := range []string{
		"1 ok", "1 arg", "1 form", "1 is", "1 none", "1 name", "1 type", "2 ok", "2 name", "2 form", "2 none", "2 type", "2 many", "3 ok", "3 arg", "3 none",
		"4 ok", "4 arg", "4 form", "4 name", "4 type", "4 gone", "4 many", "4 circle", "5 ok", "5 arg", "5 form", "5 none", "5 busy", "-1 kind", "0 kind", "6 kind",
	} {
		if verdicts[x] < 10 {
			t.Errorf("%s: %d", x, verdicts[x])
		}
	}
	if mostPolicies != 8 || mostEntities != 16 || erred[api.OK] < 1000 || erred[api.ErrOver] < 100 || erred[api.ErrGone] < 100 || len(erred) != 3 {
		t.Errorf("%d, %d, %v, %v", mostPolicies, mostEntities, erred, verdicts)
	}
}

// The same commands in the same order make the same (P3), whatever other stores are asked meanwhile.
func TestP3TheSameAgain(t *testing.T) {
	row := func(seed int64, beside *store.Store) string {
		r := rand.New(rand.NewSource(seed))
		s := store.New()
		all := fmt.Sprint(s.Apply(api.CSchema, "", source))
		for range 60 {
			c := randomChange(r)
			all += fmt.Sprint(s.Apply(c.kind, c.name, c.text)) + shown(s) + told(s.Ask(pick(r, allRequests()...)))
			beside.Apply(c.kind, c.name, c.text)
			if again := shown(s); again != shown(s) {
				t.Error(again)
			}
		}
		return all
	}
	for seed := range int64(10) {
		was := row(seed, store.New())
		for range 3 {
			if again := row(seed, usual(t)); again != was {
				t.Fatalf("%d: %s; was %s", seed, again, was)
			}
		}
	}
}
