package eval_test

import (
	"testing"

	"chancel/api"
	"chancel/ents"
)

// Of each kind of kid: only an entity has attributes.
func TestP1301GetAndHasOfEachKind(t *testing.T) {
	l := usual(t)
	each(t, func(v api.Value, e api.Expr) {
		get, has := named(api.OGet, "l", e), named(api.OHas, "l", e)
		entity, is := ents.Find(l, v.U)
		switch {
		case v.Kind != api.VUid:
			checkErr(t, l, get, api.ErrType)
			checkErr(t, l, has, api.ErrType)
		case !is:
			checkErr(t, l, get, api.ErrGone)
			checkValue(t, l, has, truth(false))
		default:
			want, _ := ents.Get(entity, "l")
			checkValue(t, l, get, want)
			checkValue(t, l, has, truth(true))
		}
	})
	// Sets of uids are no entities, not even of one alone.
	checkErrs(t, api.ErrType, `[principal].l`, `[principal] has l`, `resource.u.l`, `[A::"no"].x`, `[A::"no"] has x`)
}

// Each attribute of each entity is got as it is, and no other one is there.
func TestP1301GetEachAttribute(t *testing.T) {
	l := usual(t)
	for _, entity := range l {
		kid := api.Expr{Op: api.OUid, U: entity.U}
		for _, name := range []string{"b", "l", "s", "u", "v", "w", "_", "B", "a1", "a", "a11", "L", "bb", "__", "x", "U"} {
			if v, is := ents.Get(entity, name); is {
				checkValue(t, l, named(api.OGet, name, kid), v)
				checkValue(t, l, named(api.OHas, name, kid), truth(true))
			} else {
				checkErr(t, l, named(api.OGet, name, kid), api.ErrName)
				checkValue(t, l, named(api.OHas, name, kid), truth(false))
			}
		}
	}
}

// An entity that is not there is told ahead of an attribute that it could not have.
func TestP1301Gone(t *testing.T) {
	for _, text := range []string{`A::"no"`, `B::"a"`, `A::"A"`, `a::"a"`, `AA::"a"`, `A::""`, `A::"aa"`, `action`, `principal.v`, `Action::"a"`, `C::"w"`} {
		checkErrs(t, api.ErrGone, text+`.b`, text+`.x`)
		checkFalse(t, text+` has b`, text+` has x`)
	}
	checkErr(t, nil, tree(t, `principal.b`), api.ErrGone)
	checkValue(t, nil, tree(t, `principal has b`), truth(false))
	// Those above it are no help: attributes are not those of parents.
	checkErrs(t, api.ErrName, `A::"none".b`, `B::"top".b`, `C::"x".b`, `principal.w`)
	checkFalse(t, `A::"none" has b`, `principal has w`)
	// A parent that is not there is none, though it is one's.
	checkErrs(t, api.ErrGone, `B::"gone".b`)
}

func TestP1301GetOfWhatWasGot(t *testing.T) {
	checkTexts(t, map[string]string{
		`principal.u.l`: `[1, 2, 3]`, `principal.u.u`: `[A::"b", A::"gone", B::"b"]`, `A::"b".u.u.u.u.l`: `-9223372036854775807`, `(if principal has b then principal else A::"no").s`: `"hello"`, `(if principal has x then A::"no" else resource).v`: `[1]`,
	})
	checkTrue(t, `principal.u has l`, `principal has v`, `A::"b".u.u has w`)
	checkFalse(t, `principal.v has l`, `principal.u has x`)
	checkErrs(t, api.ErrGone, `principal.v.l`, `principal.v.v has l`, `principal.v.v.v`)
	checkErrs(t, api.ErrName, `principal.u.x`, `principal.x.x`, `principal.x has l`)
	checkErrs(t, api.ErrType, `principal.l.l`, `principal.l has l`, `principal.s has s`, `principal.b.b`, `resource.u.u`, `A::"b".w has l`)
}

// As many entities as there may be, with as many attributes: the last attribute of each is found.
func TestP1301GetAtTheBounds(t *testing.T) {
	var texts []string
	for i := range api.MaxEntities {
		texts = append(texts, `E::"`+string(rune('a'+i))+`" { a: 1, b: [], c: "", d: false, e: "`+string(rune('A'+i))+`" };`)
	}
	l := row(t, texts...)
	for i := range api.MaxEntities {
		kid := tree(t, `E::"`+string(rune('a'+i))+`"`)
		checkValue(t, l, named(api.OGet, "e", kid), str(string(rune('A'+i))))
		checkValue(t, l, named(api.OGet, "a", kid), long(1))
		checkErr(t, l, named(api.OGet, "f", kid), api.ErrName)
	}
	checkErr(t, l, tree(t, `E::"q".a`), api.ErrGone)
}
