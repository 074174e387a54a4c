package eval_test

import (
	"testing"

	"chancel/above"
	"chancel/api"
)

// areUids tells whether a value is a uid, or a set of uids, be it empty.
func areUids(v api.Value) bool {
	for _, x := range v.L {
		if x.Kind != api.VUid {
			return false
		}
	}
	return v.Kind == api.VUid || v.Kind == api.VSet
}

func TestP1301InOfEachKind(t *testing.T) {
	eachTwo(t, func(v, w api.Value, a, b api.Expr) {
		is := w.Kind == api.VUid && above.In(usual(t), v.U, w.U)
		for _, x := range w.L {
			is = is || above.In(usual(t), v.U, x.U)
		}
		checkOf(t, node(api.OIn, a, b), v.Kind == api.VUid && areUids(w), truth(is))
	})
	checkErrs(t, api.ErrType, `1 in []`, `[] in []`, `[principal] in [principal]`, `[principal] in principal`, `"a" in ["a"]`, `1 in [1]`, `principal in [1]`, `principal in ["A"]`, `principal in [true]`, `principal in resource.l`, `A::"no" in 1`, `true in principal`, `principal in "A"`)
}

// Each uid that there is, in each other one.
func TestP1301InOfEachPair(t *testing.T) {
	l := usual(t)
	all := []api.Uid{uid("A", "gone"), uid("B", "gone"), uid("A", "B"), uid("B", "a"), uid("Action", "go")}
	for _, e := range l {
		all = append(all, e.U)
	}
	count := map[bool]int{}
	for _, u := range all {
		for _, x := range all {
			is := above.In(l, u, x)
			count[is]++
			checkValue(t, l, node(api.OIn, api.Expr{Op: api.OUid, U: u}, api.Expr{Op: api.OUid, U: x}), truth(is))
		}
	}
	if count[true] < 30 || count[false] < 30 {
		t.Error(count)
	}
}

func TestP1301In(t *testing.T) {
	checkTrue(t,
		`principal in principal`, `principal in A::"b"`, `principal in B::"top"`, `principal in B::"gone"`, `resource in B::"top"`, // itself, a parent, further up, not there
		`A::"no" in A::"no"`, `action in action`, `action in Action::"go"`, // not there itself
		`C::"x" in C::"x"`, `C::"x" in C::"y"`, `C::"x" in C::"z"`, `C::"z" in C::"y"`, `C::"y" in B::"top"`, // of a circle, and out of it
	)
	checkFalse(t,
		`A::"b" in principal`, `B::"top" in resource`, `A::"b" in resource`, `principal in A::"B"`, `principal in B::"a"`, `principal in action`, `principal in C::"x"`,
		`A::"no" in principal`, `B::"gone" in B::"top"`, `principal in A::"no"`, `B::"top" in C::"x"`, `C::"x" in principal`,
		`resource in principal`, `C::"z" in principal`, `action in principal`,
	)
}

func TestP1301InSets(t *testing.T) {
	checkTrue(t,
		`principal in [A::"no", B::"top"]`, `principal in [principal]`, `principal in [A::"b"]`, `A::"no" in [A::"no"]`, `A::"b" in resource.u`, `A::"gone" in resource.u`, `principal in resource.u`, `C::"x" in [C::"z", principal]`, `C::"y" in [B::"top"]`,
		`principal in [A::"1", A::"2", A::"3", A::"4", A::"5", A::"6", A::"7", A::"b"]`, `principal in [A::"b", A::"x1", A::"x2", A::"x3", A::"x4", A::"x5", A::"x6", A::"x7"]`, `action in [action]`,
	)
	checkFalse(t,
		`principal in []`, `A::"no" in []`, `principal in A::"b".w`, `A::"b" in [principal, resource]`, `B::"top" in resource.u`, `A::"no" in resource.u`, `C::"x" in resource.u`, `principal in [A::"1", A::"2", A::"3", A::"4", A::"5", A::"6", A::"7", A::"8"]`,
	)
}

// No entities: each is in itself alone.
func TestP1301InOfNoEntities(t *testing.T) {
	for text, want := range map[string]bool{`principal in principal`: true, `principal in A::"a"`: true, `principal in [resource, principal]`: true, `principal in resource`: false, `principal in [resource]`: false, `principal in []`: false} {
		checkValue(t, nil, tree(t, text), truth(want))
	}
}

// A way up through as many as there may be.
func TestP1301InOfALongWay(t *testing.T) {
	const ids = "abcdefghijklmnop"
	var texts []string
	for i := range api.MaxEntities {
		text := `A::"` + ids[i:i+1] + `"`
		if i > 0 {
			text += ` in A::"` + ids[i-1:i] + `"`
		}
		texts = append(texts, text+` {};`)
	}
	l := row(t, texts...)
	for i := range ids {
		for k := range ids {
			a, b := `A::"`+ids[i:i+1]+`"`, `A::"`+ids[k:k+1]+`"`
			checkValue(t, l, tree(t, a+` in `+b), truth(k <= i))
			checkValue(t, l, tree(t, a+` in [B::"x", `+b+`, A::"z"]`), truth(k <= i))
		}
	}
}
