package fit_test

import (
	"testing"

	"chancel/above"
	"chancel/api"
	"chancel/ents"
)

func TestP1202CircleOfOne(t *testing.T) {
	for _, text := range []string{`A::"a" in A::"a"` + fineA, `A::"a" in A::"a", B::"x"` + fineA, `A::"b" in A::"a", A::"b", B::"x"` + fineA, `D::"d" in D::"d"` + fineD} {
		checkTexts(t, api.ErrCircle, text)
		e := entity(t, text)
		l := ents.Put(some(t), e)
		checkEntity(t, usual(t), l, e, api.ErrCircle)
		checkAll(t, usual(t), l, api.ErrCircle)
	}
}

func TestP1202CircleOfTwo(t *testing.T) {
	checkTexts(t, api.ErrCircle,
		`A::"a" in A::"b"`+fineA, // b in a
		`A::"a" in B::"y"`+fineA, // y in a, of another kind
		`B::"x" in A::"b"`+fineB,
		`B::"x" in B::"y"`+fineB,
		`A::"a" in B::"x", B::"y"`+fineA, // not by the first parent
	)
	l := row(t, `A::"a" in A::"b"`+fineA, `A::"b" in A::"a"`+fineA)
	checkEntity(t, usual(t), l, l[0], api.ErrCircle)
	checkEntity(t, usual(t), l, l[1], api.ErrCircle)
	checkAll(t, usual(t), l, api.ErrCircle)
}

func TestP1202CircleOfThree(t *testing.T) {
	l := row(t, `A::"a"`+fineA, `B::"b" in A::"a"`+fineB, `A::"c" in B::"b"`+fineA, `A::"d"`+fineA)
	checkEntity(t, usual(t), l, entity(t, `A::"a" in A::"c"`+fineA), api.ErrCircle)
	checkEntity(t, usual(t), l, entity(t, `A::"a" in A::"c", A::"d"`+fineA), api.ErrCircle)
	checkEntity(t, usual(t), l, entity(t, `A::"a" in A::"d"`+fineA), api.OK)
	checkEntity(t, usual(t), l, entity(t, `A::"d" in A::"a", A::"c", B::"b"`+fineA), api.OK)
	whole := ents.Put(l, entity(t, `A::"a" in A::"c"`+fineA))
	for _, e := range whole {
		want := api.ErrCircle
		if e.U.Id == "d" {
			want = api.OK
		}
		checkEntity(t, usual(t), whole, e, want)
	}
	checkAll(t, usual(t), whole, api.ErrCircle)
}

// By way of as many as there may be, through each of them.
func TestP1202CircleOfAll(t *testing.T) {
	const ids = "abcdefghijklmnop"
	var l []api.Entity
	for i := range api.MaxEntities {
		text := `A::"` + ids[i:i+1] + `"`
		if i > 0 {
			text += ` in A::"` + ids[i-1:i] + `"`
		}
		l = ents.Put(l, entity(t, text+fineA))
	}
	checkAll(t, usual(t), l, api.OK)
	for i := range l {
		for k := range l {
			e := entity(t, `A::"`+ids[i:i+1]+`" in A::"`+ids[k:k+1]+`"`+fineA)
			want := api.OK
			if k >= i {
				want = api.ErrCircle
			}
			checkEntity(t, usual(t), l, e, want)
			checkAll(t, usual(t), ents.Put(l, e), want)
		}
	}
}

// What it is below in l does not count, where it comes with other parents.
func TestP1202StandsInTheListAlready(t *testing.T) {
	for _, own := range []string{``, ` in A::"a"`, ` in A::"b"`, ` in A::"a", A::"b", B::"x"`, ` in A::"gone"`, ` in C::"c"`} {
		l := row(t, `A::"a"`+own+` {};`, `A::"b" in A::"c"`+fineA, `A::"c"`+fineA, `A::"d" in A::"a"`+fineA, `B::"x" in A::"d"`+fineB, `C::"c"`+fineC)
		for text, want := range map[string]api.Errno{
			`A::"a"` + fineA:                      api.OK,
			`A::"a" in A::"b"` + fineA:            api.OK,
			`A::"a" in A::"b", A::"c"` + fineA:    api.OK,
			`A::"a" in A::"a"` + fineA:            api.ErrCircle,
			`A::"a" in A::"d"` + fineA:            api.ErrCircle,
			`A::"a" in A::"b", B::"x"` + fineA:    api.ErrCircle,
			`A::"a" in A::"gone"` + fineA:         api.ErrGone,
			`A::"a" {};`:                          api.ErrName,
			`A::"d"` + fineA:                      api.OK,
			`A::"q" in A::"a", A::"d"` + fineA:    api.OK,
			`A::"q" in A::"a", A::"gone"` + fineA: api.ErrGone,
		} {
			checkEntity(t, usual(t), l, entity(t, text), want)
		}
	}
}

// Two ways up to one are no circle; nor is one that is above it, and that it does not stand in.
func TestP1202NoCircle(t *testing.T) {
	l := row(t, `A::"a"`+fineA, `A::"b" in A::"a"`+fineA, `A::"c" in A::"a"`+fineA, `A::"d" in A::"b", A::"c"`+fineA)
	checkAll(t, usual(t), l, api.OK)
	checkEntity(t, usual(t), l, entity(t, `A::"q" in A::"a", A::"b", A::"c", A::"d"`+fineA), api.OK)
	l = row(t, `A::"a" in A::"b"`+fineA, `A::"b" in A::"a"`+fineA, `A::"c" in A::"a"`+fineA)
	checkEntity(t, usual(t), l, l[2], api.OK)
	checkEntity(t, usual(t), l, entity(t, `A::"q" in A::"b", A::"c"`+fineA), api.OK)
	checkAll(t, usual(t), l, api.ErrCircle)
}

// checkNobodyAboveItself holds P1203 of a row that fits.
func checkNobodyAboveItself(t *testing.T, l []api.Entity) {
	t.Helper()
	for _, e := range l {
		for _, u := range above.Above(l, e.U) {
			if u == e.U {
				t.Fatalf("%v is above itself: %s", u, texts(l))
			}
		}
	}
}

// Each way in which four may stand below each other: it fits just where nobody is above itself.
func TestP1203NobodyIsAboveItself(t *testing.T) {
	s := made(t, `entity A in A {};`)
	ids := []string{"a", "b", "c", "d"}
	fine := 0
	for ways := range 1 << 16 {
		var l []api.Entity
		for i, id := range ids {
			e := api.Entity{U: uid("A", id)}
			for k, p := range ids {
				if ways>>(4*i+k)&1 == 1 {
					e.Parents = append(e.Parents, uid("A", p))
				}
			}
			l = append(l, e)
		}
		if circled(l) {
			checkAll(t, s, l, api.ErrCircle)
			continue
		}
		fine++
		checkAll(t, s, l, api.OK)
		checkNobodyAboveItself(t, l)
	}
	// So many there are of four that are told apart.
	if fine != 543 {
		t.Errorf("%d", fine)
	}
}

// circled takes away, again and again, those that have no parents left: a circle stays.
func circled(l []api.Entity) bool {
	gone := map[api.Uid]bool{}
	for range l {
		for _, e := range l {
			free := true
			for _, p := range e.Parents {
				free = free && gone[p]
			}
			gone[e.U] = free
		}
	}
	for _, e := range l {
		if !gone[e.U] {
			return true
		}
	}
	return false
}
