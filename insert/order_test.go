package insert

import (
	"testing"

	"blinktree/api"
	"blinktree/latch"
)

// trees is the number of trees on which P13.3 is tried.
const trees = 120

// attempt calls a function for a tree and a task in it, and returns what it returns, or false if the tree has no room for a task.
func attempt(t *testing.T, seed int, try func(g *tree, k *task) bool) bool {
	t.Helper()
	g := newTree(t, seed)
	for range 20 {
		if k := g.lock(); k != nil {
			return try(g, k)
		}
	}
	return false
}

// P13.3: after each number of steps of an Insert, every key of the tree is found, on the level of the node, on the leaves, and on the
// levels between. Only while the old node is changing, somebody who comes to it waits until the Insert has finished.
func TestKeysAreFound(t *testing.T) {
	splits, waits := 0, 0
	for seed := range trees {
		for steps := 0; attempt(t, seed, func(g *tree, k *task) bool {
			x := k.begin()
			finished := false
			for range steps {
				finished = g.step(t, x)
			}
			waits += g.expectAll(t, k, x, finished)
			if finished && x.Right().ID != 0 {
				splits++
			}
			return !finished
		}); steps++ {
		}
	}
	if splits < 30 || waits < 100 {
		t.Errorf("the test does too little: %d splits, %d Finds wait", splits, waits)
	}
}

// expectAll looks for all keys after some steps of an Insert, finishes it and the searches that wait, and returns how many of them wait.
func (g *tree) expectAll(t *testing.T, k *task, x *Insert, finished bool) int {
	t.Helper()
	var list []*search
	for level := range g.levels {
		list = append(list, g.lookAll(level)...)
	}
	added := g.look(k.h.Page.Level, api.Slot{Key: k.key, Ref: k.ref})
	if finished {
		list = append(list, added)
	}
	waits := 0
	for _, s := range list {
		g.advance(t, s, patience)
		if !s.done {
			waits++
		}
	}
	if changing := latch.Changing(g.word(k.h.ID)); waits > 0 && !changing {
		t.Fatalf("P13.3: %d keys are not found, but nothing is changing", waits)
	}
	for !finished {
		finished = g.step(t, x)
	}
	for _, s := range append(list, added) {
		g.advance(t, s, patience)
		if !s.done {
			t.Fatalf("P13.3: after the Insert, %q is not found", s.slot.Key)
		}
	}
	return waits
}

// P13.3: a Find that stops after any number of steps, and goes on after the Insert has made any number of them, finds its key. At last
// the Insert finishes, and then the Find.
func TestFindInPieces(t *testing.T) {
	for seed := range 24 {
		for first := range 40 {
			for steps := range 24 {
				attempt(t, seed, func(g *tree, k *task) bool {
					level := k.h.Page.Level
					if len(k.h.Page.Slots) == 0 {
						return false
					}
					s := g.look(level, k.h.Page.Slots[g.roll(len(k.h.Page.Slots))])
					x := k.begin()
					g.advance(t, s, first)
					for range steps {
						x.Step(g.m)
					}
					g.advance(t, s, g.roll(12))
					for !x.Step(g.m) {
					}
					g.advance(t, s, patience)
					if !s.done {
						t.Fatalf("P13.3: %q is not found", s.slot.Key)
					}
					return true
				})
			}
		}
	}
}

// P13.3: Finds of all keys of a level and an Insert make steps in turn, or in an order that seems random. While somebody has locked the
// node and does nothing, nobody waits for it.
func TestFindsBesideInsert(t *testing.T) {
	for seed := range trees {
		for _, turns := range []int{1, 2, 3, 7} {
			attempt(t, seed, func(g *tree, k *task) bool {
				list := g.lookAll(k.h.Page.Level)
				for _, s := range list {
					g.advance(t, s, g.roll(patience)*g.roll(2))
				}
				for x := k.begin(); !x.Step(g.m); {
					for _, s := range list {
						g.advance(t, s, turns-g.roll(turns))
					}
				}
				for _, s := range append(list, g.look(k.h.Page.Level, api.Slot{Key: k.key, Ref: k.ref})) {
					g.advance(t, s, patience)
					if !s.done {
						t.Fatalf("P13.3: %q is not found", s.slot.Key)
					}
				}
				return true
			})
		}
	}
}
