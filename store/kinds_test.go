package store_test

import (
	"math"
	"slices"
	"strings"
	"testing"

	"chancel/api"
	"chancel/store"
)

// A kind that is none is told ahead of all that may be wrong with a name or a text.
func TestP1502KindsThatAreNone(t *testing.T) {
	for _, s := range []*store.Store{store.New(), usual(t), full(t, api.CPut), full(t, api.CEntity)} {
		for _, kind := range []int{math.MinInt, -1, 0, 6, 7, 256, 1<<32 + 1, math.MaxInt} {
			for _, name := range []string{"", "p", "a b", "\xff"} {
				for _, text := range []string{"", "@", "\xff", source, permit, `A::"a"`, `A::"a" { n: 1 };`, strings.Repeat(" ", 601)} {
					do(t, s, kind, name, text, api.ErrKind)
				}
			}
		}
	}
}

// command is one that is about to be done to a store.
type command struct {
	s          *store.Store
	name, text string
}

// fault brings one thing about for which a command is refused.
type fault struct {
	err  api.Errno
	make func(c *command)
}

func badName(c *command) { c.name = "a b" }

func badText(c *command) { c.text += "@" }

// instead is a fault of a text: other words in the place of some.
func instead(err api.Errno, old, words string) fault {
	return fault{err, func(c *command) { c.text = strings.Replace(c.text, old, words, 1) }}
}

// checkFirst does a command with each choice of faults that stand in the promise's order: of each choice the first one is told.
func checkFirst(t *testing.T, kind int, fresh func() command, faults ...fault) {
	t.Helper()
	for choice := range 1 << len(faults) {
		c, want := fresh(), api.OK
		for i, f := range slices.Backward(faults) {
			if choice>>i&1 == 1 {
				f.make(&c)
				want = f.err
			}
		}
		do(t, c.s, kind, c.name, c.text, want)
	}
}

func TestP1502FirstFaultOfASchema(t *testing.T) {
	const text = `entity A in B { n: Long }; entity B {}; entity C {}; action go: A -> B; action stop: C -> B;`
	fresh := func() command {
		s := store.New()
		takes(t, s, api.CSchema, "", text)
		takes(t, s, api.CPut, "q", `permit(principal, action == Action::"go", resource) when { principal.n == 1 };`)
		takes(t, s, api.CPut, "p", `permit(principal == C::"c", action, resource);`)
		takesEach(t, s, api.CEntity, `B::"b" {};`, `A::"a" in B::"b" { n: 1 };`)
		return command{s, "", text}
	}
	checkFirst(t, api.CSchema, fresh,
		fault{api.ErrArg, badName},
		fault{api.ErrToken, badText},
		instead(api.ErrIs, `entity B {};`, `entity B {}; entity B {};`),
		instead(api.ErrNone, `action stop: C -> B;`, ``),       // nobody may do what p is of
		instead(api.ErrName, `action go:`, `action run:`),      // q names an action that is none
		instead(api.ErrType, `entity A in B`, `entity A in C`), // an A is in a B
	)
}

func TestP1502FirstFaultOfAPolicy(t *testing.T) {
	fresh := func() command {
		s := full(t, api.CPut)
		takes(t, s, api.CDrop, "p3", "")
		return command{s, "x", permit}
	}
	checkFirst(t, api.CPut, fresh,
		fault{api.ErrName, badName},
		fault{api.ErrToken, badText},
		instead(api.ErrType, `== 1`, `+ 1`),
		fault{api.ErrMany, func(c *command) { takes(t, c.s, api.CPut, "y", permit) }},
	)
}

func TestP1502FirstFaultOfADrop(t *testing.T) {
	fresh := func() command { return command{usual(t), "p", ""} }
	checkFirst(t, api.CDrop, fresh,
		fault{api.ErrArg, badText},
		fault{api.ErrNone, badName},
	)
}

func TestP1502FirstFaultOfAnEntity(t *testing.T) {
	fresh := func() command {
		s := full(t, api.CEntity)
		takes(t, s, api.CGone, "", `A::"07"`)
		return command{s, "", `A::"x" in A::"01" { n: 1 };`}
	}
	tooMany := fault{api.ErrMany, func(c *command) { takes(t, c.s, api.CEntity, "", `A::"y" { n: 1 };`) }}
	checkFirst(t, api.CEntity, fresh,
		fault{api.ErrArg, badName},
		fault{api.ErrToken, badText},
		instead(api.ErrMany, `in `, `in A::"1", A::"2", A::"3", A::"4", `),
		instead(api.ErrType, `n: 1`, `n: true`),
		instead(api.ErrGone, `"01"`, `"07"`),
	)
	checkFirst(t, api.CEntity, fresh,
		fault{api.ErrToken, badText},
		instead(api.ErrArg, `n: 1`, `n: 1, n: 1`),
		instead(api.ErrName, `A::"x"`, `Z::"x"`),
		instead(api.ErrGone, `"01"`, `"07"`),
		tooMany,
	)
}

// An entity that would be in a circle is there already, so it is not one too many.
func TestP1502FirstFaultOfAnEntityInACircle(t *testing.T) {
	fresh := func() command { return command{usual(t), "", `A::"b" in B::"b" { n: 1 };`} }
	checkFirst(t, api.CEntity, fresh,
		fault{api.ErrArg, badName},
		fault{api.ErrToken, badText},
		instead(api.ErrType, `n: 1`, `n: true`),
		instead(api.ErrGone, `in `, `in A::"0", `),
		instead(api.ErrCircle, `in `, `in A::"a", `),
	)
}

func TestP1502FirstFaultOfOneThatGoes(t *testing.T) {
	fresh := func(text string) func() command {
		return func() command { return command{usual(t), "", text} }
	}
	checkFirst(t, api.CGone, fresh(`A::"a"`),
		fault{api.ErrArg, badName},
		fault{api.ErrToken, badText},
		instead(api.ErrNone, `"a"`, `"0"`),
	)
	checkFirst(t, api.CGone, fresh(`A::"a"`),
		fault{api.ErrArg, badName},
		fault{api.ErrToken, badText},
		instead(api.ErrBusy, `"a"`, `"b"`),
	)
}
