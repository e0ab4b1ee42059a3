package cursor

import (
	"math"
	"testing"

	"blinktree/api"
)

// expectEnd makes moves of all kinds, none of which finds an entry.
func (d *database) expectEnd(t *testing.T, time uint64) {
	t.Helper()
	d.entries = [][]api.Entry{nil}
	for _, x := range newDice(1).tasks(time) {
		d.expect(t, "Rule 1", x)
	}
}

// Rule 1: a memory without a leaf, without a chain for any slot, or without a record for any chain. There are no entries in it.
func TestNothing(t *testing.T) {
	for seed := range 20 {
		start := newDatabase(t, seed)
		for _, n := range []uint64{0, 1 << 40, math.MaxUint64} {
			roots, refs, heads := start.copy(), start.copy(), start.copy()
			roots.set(roots.l.Root(), n)
			for _, id := range start.leaves() {
				for i := range start.l.Config().Fanout {
					refs.set(refs.l.Slot(id, i), n)
				}
			}
			for c := range uint64(start.l.Config().Chains) {
				heads.set(heads.l.Chain(c+1), n)
			}
			for _, d := range []*database{roots, refs, heads} {
				d.expectEnd(t, start.published())
			}
		}
	}
}

// Rule 1: a leaf with a right sibling that does not exist. Forwards, the entries end there.
func TestNoSibling(t *testing.T) {
	for _, right := range []uint64{0, 9, 1 << 40, math.MaxUint64} {
		d := of(t, put("a", "1", "b", "1", "c", "1", "d", "1", "e", "1"))
		left := d.m.Peek(d.l.Head(1)).N
		if d.m.Peek(d.l.Right(1)).N != 2 || left != 3 {
			t.Fatal("the test is wrong: the leaf has not been split")
		}
		d.set(d.l.Right(1), right)
		d.entries[1] = d.entries[1][:left]
		for _, x := range []task{
			{1, front, api.MoveFirst, ""}, {1, at("b"), api.MoveNext, ""}, {1, at("c"), api.MoveNext, ""}, {1, front, api.MoveSeek, "c\x00"},
		} {
			d.expect(t, "Rule 1", x)
		}
	}
}

// Rule 1: no step panics, or makes more than one access, whatever is in the memory. The move need not finish.
func TestDamage(t *testing.T) {
	finished := 0
	for seed := range 4000 {
		g := newDice(seed)
		d := of(t, put("a", "1", "b", "1", "c", "1", "d", "1", "e", "1"), put("a", "2", "b", ""), put("c", "", "f", "1"))
		numbers := []uint64{0, 1, 2, 3, 4, 7, 17, 1 << 20, 1 << 62, ^uint64(0)}
		for range 1 + g.roll(6) {
			c := api.Cell{N: oneOf(g, numbers), K: oneOf(g, universe()), M: oneOf(g, numbers)}
			d.m.Poke(g.roll(d.m.Cells()), c)
		}
		x := oneOf(g, g.tasks(oneOf(g, []uint64{0, 2, 3, math.MaxUint64})))
		if !x.still() && d.steps(t, x.start(d), 500) {
			finished++
		}
	}
	if finished < 2000 || finished == 4000 {
		t.Errorf("the test does too little: %d moves finish", finished)
	}
}
