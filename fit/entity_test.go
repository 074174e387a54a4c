package fit_test

import (
	"slices"
	"strings"
	"testing"

	"chancel/api"
	"chancel/ents"
	"chancel/schema"
)

// some are entities that fit, of each kind.
func some(t testing.TB) []api.Entity {
	t.Helper()
	return row(t, `A::"a"`+fineA, `A::"b" in A::"a", B::"x"`+fineA, `B::"x"`+fineB, `B::"y" in A::"a", B::"x", C::"c"`+fineB, `C::"c"`+fineC, `D::"d"`+fineD)
}

// checkTexts holds entities' texts, among some, against an error.
func checkTexts(t *testing.T, want api.Errno, l ...string) {
	t.Helper()
	for _, text := range l {
		checkEntity(t, usual(t), some(t), entity(t, text), want)
	}
}

func TestP1202Fits(t *testing.T) {
	checkTexts(t, api.OK,
		`A::"q"`+fineA,
		`A::""`+fineA,
		`A::"q" in A::"a"`+fineA,
		`A::"q" in A::"a", A::"b", B::"x", B::"y"`+fineA,
		`A::"q" { b: false, l: -9223372036854775807, s: "", t: [], u: B::"x" };`,
		`A::"q" { b: true, l: 9223372036854775807, s: "A", t: [1, 2, 3, 4, 5, 6, 7, 8], u: B::"" };`,
		`B::"q" in A::"b", B::"y", C::"c"`+fineB,
		`C::"q" { u: [A::"a", A::"gone"] };`,
		`D::"q" in D::"d" { a: [true], b: [], c: [], d: D::"q" };`,
	)
	for _, e := range some(t) {
		checkEntity(t, usual(t), some(t), e, api.OK)
	}
	checkEntity(t, usual(t), nil, entity(t, `A::"q"`+fineA), api.OK)
}

func TestP1202TypeIsNoKind(t *testing.T) {
	for _, kind := range strings.Fields("E a AA _ Action Bool Long String Set") {
		checkTexts(t, api.ErrName, kind+`::"a" {};`, kind+`::"A"`+fineA, kind+`::"q" in A::"a"`+fineA)
	}
	// The action a is there, and is none that may be kept.
	checkTexts(t, api.ErrName, `Action::"a" {};`, `Action::"A" {};`)
	for _, e := range some(t) {
		checkEntity(t, api.Schema{}, some(t), e, api.ErrName)
		checkEntity(t, made(t, `entity Z {};`), some(t), e, api.ErrName)
	}
	// Among entities of the same type, which do not fit either.
	e := entity(t, `E::"e" {};`)
	checkEntity(t, usual(t), []api.Entity{e}, e, api.ErrName)
}

// Each field lacks once, and each stands under another name once: ahead of it, behind it, in another case.
func TestP1202NotJustTheFields(t *testing.T) {
	for _, l := range [][]api.Entity{some(t), nil} {
		for _, text := range []string{`A::"q"` + fineA, `C::"q"` + fineC, `D::"q"` + fineD} {
			whole := entity(t, text)
			for i, a := range whole.Attrs {
				e := whole
				e.Attrs = slices.Delete(slices.Clone(whole.Attrs), i, i+1)
				checkEntity(t, usual(t), l, e, api.ErrName)
				for _, name := range []string{"_", "z", a.Name + "_", strings.ToUpper(a.Name)} {
					checkEntity(t, usual(t), l, withAttr(t, e, attr(name, a.V)), api.ErrName)
				}
			}
			for n := range whole.Attrs {
				e := whole
				e.Attrs = whole.Attrs[:n]
				checkEntity(t, usual(t), l, e, api.ErrName)
				e.Attrs = whole.Attrs[len(whole.Attrs)-n:]
				checkEntity(t, usual(t), l, e, api.ErrName)
			}
		}
	}
}

// withAttr is an entity with one more, at its place.
func withAttr(t *testing.T, e api.Entity, a api.Attr) api.Entity {
	t.Helper()
	e.Attrs = append(slices.Clone(e.Attrs), a)
	slices.SortFunc(e.Attrs, func(a, b api.Attr) int { return strings.Compare(a.Name, b.Name) })
	if err := ents.Check([]api.Entity{e}); err != api.OK {
		t.Fatalf("%s: %v", dump(e), err)
	}
	return e
}

func TestP1202OneAttributeMore(t *testing.T) {
	for _, text := range []string{`B::"q"` + fineB, `C::"q"` + fineC, `D::"q"` + fineD} {
		for _, name := range []string{"_", "aa", "bb", "cc", "v", "zz", "U", "Action"} {
			for _, v := range []api.Value{truth(true), long(1), set()} {
				checkEntity(t, usual(t), some(t), withAttr(t, entity(t, text), attr(name, v)), api.ErrName)
			}
		}
	}
	checkTexts(t, api.ErrName, `B::"q"`+fineA, `B::"q" in B::"x"`+fineC, `C::"q"`+fineA, `A::"q"`+fineC, `A::"q"`+fineB)
}

// Each field of each kind with each value: it fits, if the value is of the field's type.
func TestP1202AttributesOfAnotherType(t *testing.T) {
	for _, text := range []string{`A::"q"` + fineA, `C::"q"` + fineC, `D::"q"` + fineD} {
		for i := range entity(t, text).Attrs {
			for _, x := range append(samples(), sample{ref("D", ""), "D"}, sample{set(ref("D", "")), "Set D"}) {
				e := entity(t, text)
				e.Attrs[i].V = x.v
				want := api.ErrType
				if isOf(fieldOf(t, e, i), x) {
					want = api.OK
				}
				checkEntity(t, usual(t), some(t), e, want)
			}
		}
	}
}

func fieldOf(t *testing.T, e api.Entity, i int) api.Type {
	t.Helper()
	k, _ := schema.Kind(usual(t), e.U.Type)
	of, is := schema.Field(k, e.Attrs[i].Name)
	if !is {
		t.Fatal(e.Attrs[i].Name)
	}
	return of
}

// isOf tells by a sample's words whether it is of a type.
func isOf(of api.Type, x sample) bool {
	if of.Kind == api.TSet && x.v.Kind == api.VSet && len(x.v.L) == 0 {
		return true
	}
	return slices.ContainsFunc(strings.Split(x.kinds, ", "), func(word string) bool { return typeOf(word) == of })
}

// A parent may be of each kind that is named, in whatever order they are, and of no other one.
func TestP1202ParentsOfAnotherType(t *testing.T) {
	may := map[string]string{"A": "A B", "B": "A B C", "C": "", "D": "D"}
	own := map[string]string{"A": fineA, "B": fineB, "C": fineC, "D": fineD}
	for kind, parents := range may {
		for _, p := range []string{`A::"a"`, `B::"x"`, `C::"c"`, `D::"d"`} {
			want := api.ErrType
			if slices.Contains(strings.Fields(parents), p[:1]) {
				want = api.OK
			}
			checkTexts(t, want, kind+`::"q" in `+p+own[kind])
		}
		checkTexts(t, api.ErrType, kind+`::"q" in Action::"a"`+own[kind], kind+`::"q" in E::"e"`+own[kind])
	}
	checkTexts(t, api.ErrType, `A::"q" in A::"a", A::"b", B::"x", C::"c"`+fineA, `B::"q" in A::"a", D::"d"`+fineB, `C::"q" in C::"c"`+fineC)
}

func TestP1202ParentsThatAreGone(t *testing.T) {
	checkTexts(t, api.ErrGone,
		`A::"q" in A::"z"`+fineA,
		`A::"q" in A::"q"`+fineA, // itself, and not there yet
		`A::"q" in A::"x"`+fineA, // there is a B of that id
		`A::"q" in B::"a"`+fineA, // there is an A of that id
		`A::"q" in A::"a", A::"z"`+fineA,
		`A::"q" in A::"", A::"a"`+fineA,
		`A::"q" in A::"a", A::"b", B::"x", B::"z"`+fineA,
		`A::"a" in A::"z"`+fineA,
		`B::"q" in C::""`+fineB,
		`D::"q" in D::"D"`+fineD,
	)
	checkEntity(t, usual(t), nil, entity(t, `A::"q" in A::"a"`+fineA), api.ErrGone)
	checkEntity(t, usual(t), nil, entity(t, `A::"q" in A::"q"`+fineA), api.ErrGone)
}

// Of a parent of both faults the type is told; of several parents the first one that has a fault.
func TestP1202ParentsOfBothFaults(t *testing.T) {
	checkTexts(t, api.ErrType, `A::"q" in C::"z"`+fineA, `B::"q" in D::""`+fineB, `C::"q" in C::"q"`+fineC, `D::"q" in A::"a", D::"z"`+fineD, `D::"q" in A::"z", D::"z"`+fineD)
	checkTexts(t, api.ErrGone, `A::"q" in A::"z", C::"c"`+fineA, `A::"q" in A::"z", C::"z"`+fineA, `A::"q" in A::"a", B::"z", C::"c", D::"d"`+fineA)
	checkTexts(t, api.ErrType, `A::"q" in A::"a", B::"x", C::"c", D::"z"`+fineA, `B::"q" in A::"a", D::"d"`+fineB)
}
