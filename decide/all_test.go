package decide_test

import (
	"fmt"
	"slices"
	"strings"
	"testing"

	"chancel/api"
	"chancel/decide"
)

// The document's example 1.
func TestP1402NoPolicies(t *testing.T) {
	checkAnswer(t, ``, `-|`)
	for _, ps := range [][]decide.Named{nil, {}} {
		for _, r := range []api.Request{request(), {}} {
			a := decide.All(nil, r, ps)
			if a.Allow || len(a.Reasons) != 0 || len(a.Errors) != 0 {
				t.Errorf("%+v", a)
			}
		}
	}
}

func TestP1402OnePolicy(t *testing.T) {
	for letter, want := range map[string]string{`P`: `+0|`, `Q`: `+0|`, `p`: `-0|`, `q`: `-0|`} {
		checkAnswer(t, letter, want)
	}
	for _, letter := range lettersThatDont {
		checkAnswer(t, string(letter), `-|`)
	}
	for _, letter := range lettersThatErr {
		checkAnswer(t, string(letter), `-|0`)
	}
}

func TestP1402SomePolicies(t *testing.T) {
	for letters, want := range map[string]string{
		`PQ`: `+0 1|`, `QPQ`: `+0 1 2|`, `PNQ`: `+0 2|`, `NSUP`: `+3|`, `NSU`: `-|`, `snu`: `-|`,
		`pq`: `-0 1|`, `qnp`: `-0 2|`, `Pp`: `-1|`, `pP`: `-0|`, `PpP`: `-1|`, `pPq`: `-0 2|`, `PqQpS`: `-1 3|`,
		`Ps`: `+0|`, `nP`: `+1|`, `uPsQn`: `+1 3|`,
		`TP`: `+1|0`, `PT`: `+0|1`, `tP`: `+1|0`, `Pt`: `+0|1`, `tp`: `-1|0`, `Tp`: `-1|0`, `TpPx`: `-1|0 3`, `GPoQx`: `+1 3|0 2 4`,
		`TXGO`: `-|0 1 2 3`, `txgo`: `-|0 1 2 3`, `OgXt`: `-|0 1 2 3`, `NTnt`: `-|1 3`,
	} {
		checkAnswer(t, letters, want)
	}
}

// wanted is told of what becomes of letters.
func wanted(letters []rune) string {
	var permit, forbid, err []string
	for i, letter := range letters {
		name := fmt.Sprint(i)
		switch {
		case strings.ContainsRune(lettersThatErr, letter):
			err = append(err, name)
		case strings.ContainsRune(`PQ`, letter):
			permit = append(permit, name)
		case strings.ContainsRune(`pq`, letter):
			forbid = append(forbid, name)
		}
	}
	switch {
	case forbid != nil:
		return "-" + strings.Join(forbid, " ") + "|" + strings.Join(err, " ")
	case permit != nil:
		return "+" + strings.Join(permit, " ") + "|" + strings.Join(err, " ")
	}
	return "-|" + strings.Join(err, " ")
}

// All rows of some policies, in each order, each also more than once.
func TestP1402EachOrder(t *testing.T) {
	l, r, all := usual(t), request(), outcomes(t)
	count := 0
	sequences([]rune(`PpNsTx`), 5, func(letters []rune) {
		var ps []decide.Named
		for i, letter := range letters {
			ps = append(ps, decide.Named{Name: fmt.Sprint(i), P: all[letter]})
		}
		if got := told(decide.All(l, r, ps)); got != wanted(letters) {
			t.Errorf("%s: %s; want %s", string(letters), got, wanted(letters))
		}
		count++
	})
	if count != 1+6+36+216+1296+7776 {
		t.Error(count)
	}
	sequences([]rune(letters), 2, func(letters []rune) {
		checkAnswer(t, string(letters), wanted(letters))
	})
}

// Names stand in the order of the policies, not in their own, and one that comes twice is told twice.
func TestP1402Names(t *testing.T) {
	for _, x := range []struct{ letters, names, want string }{
		{`PQP`, `c a b`, `+c a b|`},
		{`PQP`, `a a a`, `+a a a|`},
		{`PQP`, `b a b`, `+b a b|`},
		{`pqp`, `z _ A`, `-z _ A|`},
		{`pPqT`, `a a a a`, `-a a|a`},
		{`TXt`, `b c a`, `-|b c a`},
		{`TPT`, `a a a`, `+a|a a`},
		{`TPNt`, `a b a a`, `+b|a a`},
		{`PpQ`, `a a a`, `-a|`},
		{`NPs`, `a a a`, `+a|`},
		{`TtPp`, `9 10 permit forbid`, `-forbid|9 10`},
	} {
		ps := named(t, x.letters)
		for i, name := range strings.Fields(x.names) {
			ps[i].Name = name
		}
		if got := told(answer(t, ps)); got != x.want {
			t.Errorf("%s, %s: %s; want %s", x.letters, x.names, got, x.want)
		}
	}
}

// Names are told as they are, whatever they are.
func TestP1402AnyNames(t *testing.T) {
	all := []string{"", "a", "", "\xff", "a b", "é", strings.Repeat("long", 1000), "|", "\n"}
	for _, letter := range []string{`P`, `p`, `t`} {
		ps := named(t, strings.Repeat(letter, len(all)))
		for i, name := range all {
			ps[i].Name = name
		}
		a := answer(t, ps)
		names, none := a.Reasons, a.Errors
		if letter == `t` {
			names, none = none, names
		}
		if !slices.Equal(names, all) || len(none) != 0 || a.Allow != (letter == `P`) {
			t.Errorf("%s: %+v", letter, a)
		}
	}
}

// The answer is that of this request, among these entities.
func TestP1402OfTheRequest(t *testing.T) {
	ps := []decide.Named{
		{Name: "above", P: policy(t, `permit(principal in A::"c", action, resource);`)},
		{Name: "number", P: policy(t, `permit(principal, action in Action::"all", resource) when { principal.n < 3 };`)},
		{Name: "self", P: policy(t, `forbid(principal, action, resource) when { principal == resource };`)},
		{Name: "circle", P: policy(t, `forbid(principal, action, resource in C::"y") unless { principal has b };`)},
	}
	a, b, c, x := uid("A", "a"), uid("A", "b"), uid("A", "c"), uid("C", "x")
	for _, y := range []struct {
		l                   []api.Entity
		principal, resource api.Uid
		want                string
	}{
		{usual(t), a, b, `+above number|`},
		{usual(t), a, a, `-self|`},
		{usual(t), a, x, `+above number|`},
		{usual(t), c, x, `-circle|`},
		{usual(t), c, a, `-circle|`},
		{usual(t), c, b, `+above|`},
		{usual(t), x, b, `-|number`},
		{usual(t), x, x, `-self circle|number`},
		{usual(t), uid("Z", "none"), b, `-|number`},
		{nil, a, b, `-|`},
		{nil, c, b, `+above|`},
		{nil, a, uid("C", "y"), `-circle|`},
	} {
		r := api.Request{Principal: y.principal, Action: request().Action, Resource: y.resource}
		if got := told(decide.All(y.l, r, ps)); got != y.want {
			t.Errorf("%v among %d: %s; want %s", r, len(y.l), got, y.want)
		}
	}
}

// As many as there may be, and many more.
func TestP1402ManyPolicies(t *testing.T) {
	checkAnswer(t, `PPPPPPPP`, `+0 1 2 3 4 5 6 7|`)
	checkAnswer(t, `PPPPPPPp`, `-7|`)
	checkAnswer(t, `tttttttP`, `+7|0 1 2 3 4 5 6`)
	for _, letters := range []string{strings.Repeat(`PTNPt`, 400), strings.Repeat(`PTn`, 500) + `p`, `p` + strings.Repeat(`PGQ`, 500), strings.Repeat(`tpsP`, 500)} {
		checkAnswer(t, letters, wanted([]rune(letters)))
	}
}
