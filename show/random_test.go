package show_test

import (
	"cmp"
	"math/rand"
	"slices"
	"strings"
	"testing"

	"chancel/api"
	"chancel/lex"
	"chancel/value"
)

// backs tells whether what is made by draws is read as it was (P603), as far as the bounds of lex allow the text, which must be so often enough.
func (f face[T]) backs(t *testing.T, seed int64, draw func(*rand.Rand) T) {
	t.Helper()
	r := rand.New(rand.NewSource(seed))
	read := 0
	for range 3000 {
		x := draw(r)
		switch _, err := lex.Tokens(f.write(x)); err {
		case api.OK:
			f.back(t, x)
			read++
		case api.ErrLong, api.ErrMany:
		default:
			t.Errorf("%s: %v", f.write(x), err)
		}
		if t.Failed() {
			return
		}
	}
	if read < 1000 {
		t.Errorf("%d were read", read)
	}
}

func randomName(r *rand.Rand) string {
	l := append([]string{"A", "B", "a", "_9", "abcdefghijkl"}, words...)
	return l[r.Intn(len(l))]
}

// randomType tells a name that is no type's of the language.
func randomType(r *rand.Rand) string {
	for {
		if s := randomName(r); !slices.Contains([]string{"Bool", "Long", "String"}, s) {
			return s
		}
	}
}

func randomText(r *rand.Rand) string {
	runes := []rune("ab\"\\\n\t\x00\x1f\x7f é€😀*/:;{}")
	var b strings.Builder
	for range r.Intn(6) {
		b.WriteRune(runes[r.Intn(len(runes))])
	}
	return b.String()
}

func randomUid(r *rand.Rand) api.Uid { return id(randomName(r), randomText(r)) }

// some draws a list of from least to most.
func some[T any](r *rand.Rand, least, most int, draw func(*rand.Rand) T) []T {
	var l []T
	for range least + r.Intn(most-least+1) {
		l = append(l, draw(r))
	}
	return l
}

func randomScope(r *rand.Rand) api.Scope {
	if kind := r.Intn(3); kind != api.SAny {
		return api.Scope{Kind: kind, U: randomUid(r)}
	}
	return api.Scope{}
}

func randomPolicy(r *rand.Rand) api.Policy {
	return api.Policy{Forbid: r.Intn(2) == 0, Principal: randomScope(r), Action: randomScope(r), Resource: randomScope(r), Conds: some(r, 0, 4, func(r *rand.Rand) api.Cond {
		return api.Cond{Unless: r.Intn(2) == 0, E: randomTree(r, 1+r.Intn(5))}
	})}
}

func randomField(r *rand.Rand) api.Field {
	f := api.Field{Name: randomName(r), Type: api.Type{Kind: 1 + r.Intn(5)}}
	kind := f.Type.Kind
	if kind == api.TSet {
		kind = 1 + r.Intn(4)
		f.Type.Of = kind
	}
	if kind == api.TUid {
		f.Type.Name = randomType(r)
	}
	return f
}

func randomSchema(r *rand.Rand) api.Schema {
	s := api.Schema{
		Kinds: some(r, 0, 6, func(r *rand.Rand) api.Kind {
			k := api.Kind{Name: randomName(r), Parents: some(r, 0, 3, randomName), Fields: some(r, 0, 5, randomField)}
			slices.SortStableFunc(k.Fields, func(a, b api.Field) int { return cmp.Compare(a.Name, b.Name) })
			return k
		}),
		Actions: some(r, 0, 6, func(r *rand.Rand) api.Action {
			return api.Action{Name: randomName(r), Principals: some(r, 1, 4, randomName), Resources: some(r, 1, 4, randomName)}
		}),
	}
	slices.SortStableFunc(s.Kinds, func(a, b api.Kind) int { return cmp.Compare(a.Name, b.Name) })
	slices.SortStableFunc(s.Actions, func(a, b api.Action) int { return cmp.Compare(a.Name, b.Name) })
	return s
}

func randomValue(r *rand.Rand) api.Value {
	kind := 1 + r.Intn(4)
	if r.Intn(4) > 0 {
		return valueOf(r, kind)
	}
	set, _ := value.Set(some(r, 0, 8, func(r *rand.Rand) api.Value { return valueOf(r, kind) })...)
	return set
}

func valueOf(r *rand.Rand, kind int) api.Value {
	switch kind {
	case api.VBool:
		return vBool(r.Intn(2) == 0)
	case api.VLong:
		return vLong([]int64{0, 1, -1, -1<<63 + 1, 1<<63 - 1, r.Int63()}[r.Intn(6)])
	case api.VStr:
		return vStr(randomText(r))
	}
	return api.Value{Kind: api.VUid, U: randomUid(r)}
}

func randomEntity(r *rand.Rand) api.Entity {
	e := api.Entity{U: randomUid(r), Parents: some(r, 0, 4, randomUid), Attrs: some(r, 0, 5, func(r *rand.Rand) api.Attr {
		return api.Attr{Name: randomName(r), V: randomValue(r)}
	})}
	slices.SortFunc(e.Parents, func(a, b api.Uid) int {
		return cmp.Or(cmp.Compare(a.Type, b.Type), cmp.Compare(a.Id, b.Id))
	})
	e.Parents = slices.Compact(e.Parents)
	slices.SortStableFunc(e.Attrs, func(a, b api.Attr) int { return cmp.Compare(a.Name, b.Name) })
	return e
}

func TestP603RandomPolicies(t *testing.T) { policies.backs(t, 1, randomPolicy) }

func TestP603RandomSchemas(t *testing.T) { schemas.backs(t, 2, randomSchema) }

func TestP603RandomEntities(t *testing.T) { entities.backs(t, 3, randomEntity) }

func TestP603RandomUids(t *testing.T) { uids.backs(t, 4, randomUid) }
