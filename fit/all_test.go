package fit_test

import (
	"testing"

	"chancel/api"
	"chancel/ents"
	"chancel/fit"
)

func TestExample1(t *testing.T) {
	for _, s := range []api.Schema{{}, usual(t), made(t, `entity A {};`)} {
		checkAll(t, s, nil, api.OK)
		checkAll(t, s, []api.Entity{}, api.OK)
	}
}

func TestP1202AllOfOne(t *testing.T) {
	for text, want := range map[string]api.Errno{
		`A::"a"` + fineA: api.OK,
		`B::"a"` + fineB: api.OK,
		`E::"a"` + fineA: api.ErrName,
		`A::"a"` + fineB: api.ErrName,
		`A::"a" { b: true, l: 1, s: 1, t: [], u: B::"b" };`:     api.ErrType,
		`A::"a" in C::"c"` + fineA:                              api.ErrType,
		`A::"a" in A::"b"` + fineA:                              api.ErrGone,
		`A::"a" in A::"a"` + fineA:                              api.ErrCircle,
		`A::"a" in A::"a", A::"b"` + fineA:                      api.ErrGone,
		`A::"a" { b: true, l: 1, s: "", t: [true], u: B::"" };`: api.ErrType,
	} {
		checkAll(t, usual(t), row(t, text), want)
		checkAll(t, api.Schema{}, row(t, text), api.ErrName)
	}
}

func TestP1202AllOfMany(t *testing.T) {
	checkAll(t, usual(t), some(t), api.OK)
	var l []api.Entity
	for _, id := range "abcdefghijklmnop" {
		l = ents.Put(l, entity(t, `B::"`+string(id)+`"`+fineB))
	}
	if len(l) != api.MaxEntities {
		t.Fatal(len(l))
	}
	checkAll(t, usual(t), l, api.OK)
	for i := range l {
		for want, text := range wrong(l[i].U) {
			checkAll(t, usual(t), ents.Put(l, entity(t, text)), want)
		}
	}
}

// wrong are texts of entities of a uid, of the kind B, with one error each.
func wrong(u api.Uid) map[api.Errno]string {
	own := `B::"` + u.Id + `"`
	return map[api.Errno]string{
		api.ErrName:   own + fineC,
		api.ErrType:   own + ` in D::"d"` + fineB,
		api.ErrGone:   own + ` in B::"gone"` + fineB,
		api.ErrCircle: own + ` in ` + own + fineB,
	}
}

// Where several have an error that of the first one in the list is told, whichever errors they are.
func TestP1202AllTellsTheFirst(t *testing.T) {
	l := row(t, `B::"a"`+fineB, `B::"b"`+fineB, `B::"c"`+fineB, `B::"d"`+fineB)
	for i := range l {
		for k := range i {
			for first, ahead := range wrong(l[k].U) {
				for _, behind := range wrong(l[i].U) {
					both := ents.Put(ents.Put(l, entity(t, behind)), entity(t, ahead))
					checkAll(t, usual(t), both, first)
				}
			}
		}
	}
}

// A parent may stand ahead of its entity, and behind it.
func TestP1202AllParentsBehind(t *testing.T) {
	l := row(t, `A::"a" in A::"b", B::"x"`+fineA, `A::"b" in A::"c"`+fineA, `A::"c"`+fineA, `A::"d" in A::"a"`+fineA, `B::"x" in C::"z"`+fineB, `C::"z"`+fineC)
	checkAll(t, usual(t), l, api.OK)
	checkNobodyAboveItself(t, l)
	checkAll(t, usual(t), ents.Drop(l, uid("C", "z")), api.ErrGone)
	checkAll(t, usual(t), ents.Drop(l, uid("A", "c")), api.ErrGone)
	checkAll(t, usual(t), ents.Drop(l, uid("A", "a")), api.ErrGone)
	checkAll(t, usual(t), ents.Drop(l, uid("A", "d")), api.OK)
	checkAll(t, usual(t), ents.Put(l, entity(t, `C::"z" { u: 1 };`)), api.ErrType)
}

// One below a circle has no fault by that: those in it have, and whoever stands ahead of them is asked first.
func TestP1202AllBelowACircle(t *testing.T) {
	l := row(t, `A::"a" in A::"b"`+fineA, `A::"b" in A::"c"`+fineA, `A::"c" in A::"b"`+fineA, `A::"d"`+fineA)
	checkEntity(t, usual(t), l, l[0], api.OK)
	checkAll(t, usual(t), l, api.ErrCircle)
	checkAll(t, usual(t), ents.Put(l, entity(t, `A::"d" {};`)), api.ErrCircle)
	checkAll(t, usual(t), ents.Put(l, entity(t, `A::"a" in A::"b" {};`)), api.ErrName)
	checkAll(t, usual(t), ents.Put(l, entity(t, `A::"a" in A::"b", A::"gone"`+fineA)), api.ErrGone)
}

// checkEach holds All against Entity of each.
func checkEach(t *testing.T, s api.Schema, l []api.Entity) {
	t.Helper()
	for _, e := range l {
		if err := fit.Entity(s, l, e); err != api.OK {
			checkAll(t, s, l, err)
			return
		}
	}
	checkAll(t, s, l, api.OK)
}
