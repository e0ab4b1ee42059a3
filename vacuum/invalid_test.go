package vacuum

import (
	"testing"

	"blinktree/api"
)

// Rule 1: a memory without a leaf for the empty key. A pass takes effect all the same, and finishes.
func TestNoLeaf(t *testing.T) {
	for _, root := range []uint64{0, 7, 1 << 40, ^uint64(0)} {
		d := of(t, put("a", "1"), put("a", ""))
		d.set(d.l.Root(), root)
		d.run(t, NewPass(d.l), 2)
		if d.floor() != 2 {
			t.Errorf("P19.1: the floor is %d", d.floor())
		}
	}
}

// Rule 1: a leaf with a right sibling that does not exist. The leaves up to it are swept and released.
func TestNoSibling(t *testing.T) {
	for _, right := range []uint64{7, 1 << 40, ^uint64(0)} {
		d := of(t, put("a", "1", "b", "1", "c", "1", "d", "1", "e", "1"), put("a", ""))
		if d.m.Peek(d.l.Right(1)).N != 2 {
			t.Fatal("the test is wrong: the leaf has not been split")
		}
		d.set(d.l.Right(1), right)
		d.run(t, NewPass(d.l), 2)
		d.set(d.l.Right(1), 2)
		if d.locked() != 0 || d.slots()[0].Key != "b" {
			t.Errorf("P19.2: %d leaves are locked, and the slots are %v", d.locked(), d.slots())
		}
	}
}

// Rule 1: slots whose chains do not exist are as dead as those whose chains are empty, and one whose record does not exist does no harm.
func TestNoChain(t *testing.T) {
	for _, ref := range []uint64{0, 9, 1 << 40, ^uint64(0)} {
		d := of(t, put("a", "1", "b", "1", "c", "1"))
		d.write(1, leafLevel, []api.Slot{{Key: "a", Ref: 1}, {Key: "b", Ref: ref}, {Key: "c", Ref: 3}})
		d.run(t, NewPass(d.l), 1)
		if list := d.slots(); len(list) != 2 || list[0].Key != "a" || list[1].Key != "c" {
			t.Errorf("P19.2: for the chain %d, the slots are %v", ref, list)
		}
		d.set(d.l.Chain(3), ref)
		d.run(t, NewPass(d.l), 1)
		if list := d.slots(); len(list) == 0 || list[0].Key != "a" {
			t.Errorf("P19.2: for the record %d, the slots are %v", ref, list)
		}
	}
}

// Rule 1: no step panics, or makes more than one access, whatever is in the memory. The pass need not finish.
func TestDamage(t *testing.T) {
	finished := 0
	for seed := range 3000 {
		g := newDice(seed)
		d := of(t, put("a", "1", "b", "1", "c", "1", "d", "1", "e", "1"), put("a", "2", "b", ""), put("c", "", "f", "1"))
		numbers := []uint64{0, 1, 2, 3, 4, 7, 17, 1 << 20, 1 << 62, ^uint64(0)}
		for range 1 + g.roll(5) {
			c := api.Cell{N: numbers[g.roll(len(numbers))], K: universe()[g.roll(121)], M: numbers[g.roll(len(numbers))]}
			d.m.Poke(g.roll(d.m.Cells()), c)
		}
		if d.steps(t, NewPass(d.l), 500) {
			finished++
		}
	}
	if finished < 1000 || finished == 3000 {
		t.Errorf("the test does too little: %d passes finish", finished)
	}
}
