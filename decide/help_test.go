package decide_test

import (
	"fmt"
	"slices"
	"strings"
	"testing"

	"chancel/api"
	"chancel/decide"
	"chancel/ents"
	"chancel/parse"
	"chancel/show"
)

func uid(kind, id string) api.Uid { return api.Uid{Type: kind, Id: id} }

// row is the entities of texts, at their places.
func row(t testing.TB, texts ...string) []api.Entity {
	t.Helper()
	var l []api.Entity
	for _, text := range texts {
		e, err := parse.Entity(text)
		if err != api.OK {
			t.Fatalf("%s: %v", text, err)
		}
		l = ents.Put(l, e)
	}
	if err := ents.Check(l); err != api.OK || len(l) != len(texts) {
		t.Fatalf("%q: %d, %v", texts, len(l), err)
	}
	return l
}

// usual are entities, one of them an action; one that two name is not there, and three stand in a circle.
func usual(t testing.TB) []api.Entity {
	t.Helper()
	return row(t,
		`A::"a" in A::"b", C::"x" { n: 1, b: true, s: "x", u: A::"b", l: [1, 2] };`,
		`A::"b" in A::"c" { n: 2, b: false };`,
		`A::"c" in A::"gone" { n: 9223372036854775807 };`,
		`A::"d" in A::"b", A::"gone" {};`,
		`Action::"go" in Action::"all" {};`,
		`C::"top" {};`,
		`C::"x" in C::"y" {};`,
		`C::"y" in C::"z" {};`,
		`C::"z" in C::"top", C::"x" {};`,
	)
}

// request is by one, by an action, upon another one: all three differ.
func request() api.Request {
	return api.Request{Principal: uid("A", "a"), Action: uid("Action", "go"), Resource: uid("A", "d")}
}

// policy is the one of a text.
func policy(t testing.TB, text string) api.Policy {
	t.Helper()
	p, err := parse.Policy(text)
	if err != api.OK {
		t.Fatalf("%s: %v", text, err)
	}
	return p
}

// effects are both, as a policy begins with them.
func effects() []string { return []string{"permit", "forbid"} }

func checkOne(t *testing.T, l []api.Entity, r api.Request, p api.Policy, want bool, wrong api.Errno) {
	t.Helper()
	if got, err := decide.One(l, r, p); got != want || err != wrong {
		t.Errorf("%s of %v: %v, %v; want %v, %v", show.Policy(p), r, got, err, want, wrong)
	}
}

// checkConds holds a policy of these conditions, of each effect, against what becomes of it among the usual entities.
func checkConds(t *testing.T, conds string, want bool, wrong api.Errno) {
	t.Helper()
	for _, effect := range effects() {
		checkOne(t, usual(t), request(), policy(t, effect+"(principal, action, resource) "+conds+";"), want, wrong)
	}
}

// outcomes are policies by letters. Great ones permit, small ones forbid: of P and f the first holds, of each of the others one thing is wrong.
func outcomes(t testing.TB) map[rune]api.Policy {
	t.Helper()
	all := map[rune]api.Policy{}
	for letter, text := range map[rune]string{
		'p': `(principal, action, resource);`,
		'q': `(principal in A::"c", action, resource in A::"gone") when { principal.n == 1 } unless { resource has n };`,
		's': `(principal == A::"d", action, resource) when { 1 };`,
		'n': `(principal, action, resource) when { false } when { 1 };`,
		'u': `(principal, action, resource) when { true } unless { true };`,
		't': `(principal, action, resource) when { 1 };`,
		'x': `(principal, action, resource) when { true } unless { principal.x };`,
		'g': `(principal, action, resource in A::"b") unless { A::"gone".n == 1 };`,
		'o': `(principal, action, resource) when { principal in resource || A::"c".n + 1 == 1 };`,
	} {
		all[letter] = policy(t, "forbid"+text)
		all[letter-'a'+'A'] = policy(t, "permit"+text)
	}
	return all
}

// letters are those of outcomes, by what becomes of them.
const (
	lettersThatHold = "pqPQ"
	lettersThatDont = "snuSNU"
	lettersThatErr  = "txgoTXGO"
	letters         = lettersThatHold + lettersThatDont + lettersThatErr
)

// named are the policies of letters, by names that count them.
func named(t testing.TB, letters string) []decide.Named {
	t.Helper()
	all := outcomes(t)
	var ps []decide.Named
	for i, letter := range letters {
		p, is := all[letter]
		if !is {
			t.Fatalf("%c", letter)
		}
		ps = append(ps, decide.Named{Name: fmt.Sprint(i), P: p})
	}
	return ps
}

// told is an answer as text: +, if it allows, or -, then names of reasons, then behind a stroke of errors.
func told(a api.Answer) string {
	sign := "-"
	if a.Allow {
		sign = "+"
	}
	return sign + strings.Join(a.Reasons, " ") + "|" + strings.Join(a.Errors, " ")
}

func answer(t testing.TB, ps []decide.Named) api.Answer {
	t.Helper()
	return decide.All(usual(t), request(), ps)
}

func checkAnswer(t *testing.T, letters, want string) {
	t.Helper()
	if got := told(answer(t, named(t, letters))); got != want {
		t.Errorf("%q: %s; want %s", letters, got, want)
	}
}

// sequences calls do with each one of up to most elements of l.
func sequences[T any](l []T, most int, do func([]T)) {
	var grow func(head []T)
	grow = func(head []T) {
		do(head)
		if len(head) == most {
			return
		}
		for _, x := range l {
			grow(append(slices.Clone(head), x))
		}
	}
	grow(nil)
}

func TestOutcomesAreWhatTheySay(t *testing.T) {
	all := outcomes(t)
	if len(all) != len(letters) {
		t.Errorf("%d", len(all))
	}
	for _, letter := range letters {
		is, err := decide.One(usual(t), request(), all[letter])
		switch {
		case all[letter].Forbid != (letter >= 'a'),
			is != strings.ContainsRune(lettersThatHold, letter),
			(err != api.OK) != strings.ContainsRune(lettersThatErr, letter):
			t.Errorf("%c: %v, %v", letter, is, err)
		}
	}
}

// one asks for a policy among the usual entities.
func one(t testing.TB, p api.Policy) (bool, api.Errno) {
	t.Helper()
	return decide.One(usual(t), request(), p)
}
