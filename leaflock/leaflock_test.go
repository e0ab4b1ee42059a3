package leaflock

import (
	"math"
	"testing"

	"blinktree/api"
	"blinktree/latch"
	"blinktree/layout"
	"blinktree/memory"
)

// trees is the number of trees on which Lock is tried.
const trees = 60

// P12.1: the example. Another Lock waits, whatever its key is, and has the node after its release.
func TestEmptyDatabase(t *testing.T) {
	for _, key := range probes() {
		l, m, err := layout.Start(api.Config{Threads: 1, Snapshots: 1, Nodes: 1, Chains: 1, Records: 1, Fanout: 4, Clock: 1})
		if err != api.OK {
			t.Fatal(err)
		}
		d := &database{l: l, m: m, mine: map[*Lock]uint64{}}
		for i := range m.Cells() {
			d.want = append(d.want, m.Peek(i))
		}
		leaf := &member{id: 1, page: api.Page{Last: true}}
		k, other, none := NewLock(l, key, 0), NewLock(l, "k", 0), NewLock(l, key, 1)
		d.run(t, none)
		expectNone(t, "P12.1: no such level", none)
		d.expect(t, "P12.1: nothing is locked")
		d.run(t, k)
		d.expectHeld(t, "P12.1", k, leaf)
		d.wait(t, "P12.1: the node is locked", other)
		d.expect(t, "P12.1: a waiting Lock changes nothing")
		d.unlock(1)
		d.run(t, other)
		d.expectHeld(t, "P12.1: behind the release", other, leaf)
	}
}

// P12.1: all keys on all levels of trees of all shapes, in which some separators have not been posted. Nothing but the latch of the
// node is changed.
func TestLock(t *testing.T) {
	for seed := range trees {
		g := newTree(t, seed)
		for _, key := range probes() {
			for level := range g.levels {
				k, n := NewLock(g.l, key, level), g.covering(key, level)
				g.run(t, k)
				g.expectHeld(t, "P12.1", k, n)
				g.unlock(n.id)
			}
		}
	}
}

// P12.1: the levels above the root, and those that cannot exist. Since nothing is locked there, no latch is waited for.
func TestNoLevel(t *testing.T) {
	for seed := range trees {
		g := newTree(t, seed)
		for _, n := range g.members() {
			if seed%2 == 0 {
				g.setWord(n.id, latch.Lock(g.word(n.id)))
			}
		}
		for _, key := range []string{"", "a", "b\x00", "\xff\xff"} {
			for _, level := range append([]int{len(g.levels), len(g.levels) + 1}, noLevels...) {
				k := NewLock(g.l, key, level)
				g.run(t, k)
				expectNone(t, "P12.1: no such level", k)
			}
		}
		g.expect(t, "P12.1: nothing is locked")
	}
}

// P12.1: the locks of other nodes, those on the way included, do not matter. That of the node itself does.
func TestOtherNodesAreLocked(t *testing.T) {
	for seed := range trees / 2 {
		g := newTree(t, seed)
		for _, n := range g.members() {
			g.setWord(n.id, latch.Lock(g.word(n.id)))
		}
		for _, key := range g.some(probes(), 20) {
			for level := range g.levels {
				n := g.covering(key, level)
				k := NewLock(g.l, key, level)
				g.wait(t, "P12.1: the node is locked", k)
				g.expect(t, "P12.1: a waiting Lock changes nothing")
				g.unlock(n.id)
				g.run(t, k)
				g.expectHeld(t, "P12.1: the other nodes are locked", k, n)
			}
		}
	}
}

// P2.4: making a machine makes no access, and the memory is read when the steps are made.
func TestLockReadsLate(t *testing.T) {
	g := newTree(t, 1)
	root := g.m.Peek(g.l.Root())
	g.m.Poke(g.l.Root(), api.Cell{})
	k := NewLock(g.l, "b", 0)
	if g.m.Accesses() != 0 {
		t.Error("P2.4: making a machine makes an access")
	}
	g.m.Poke(g.l.Root(), root)
	g.run(t, k)
	g.expectHeld(t, "P12.1", k, g.covering("b", 0))
}

// targets calls a function for a key on a level of each tree, and for each number of steps that a Lock makes there before it has locked
// the node.
func targets(t *testing.T, try func(g *tree, k *Lock, n *member)) {
	t.Helper()
	for seed := range trees {
		for steps := 0; begin(t, seed, steps, try); steps++ {
		}
	}
}

// begin makes some steps of a Lock in a tree, and calls a function if they do not lock the node. Otherwise it returns false.
func begin(t *testing.T, seed, steps int, try func(g *tree, k *Lock, n *member)) bool {
	t.Helper()
	g := newTree(t, seed)
	key, level := g.some(probes(), 1)[0], g.roll(len(g.levels))
	k, n := NewLock(g.l, key, level), g.covering(key, level)
	for range steps {
		if g.step(t, k) {
			t.Fatal("P12.1: finished without a lock")
		}
	}
	if latch.Locked(g.word(n.id)) {
		return false
	}
	g.expect(t, "P12.1: nothing is changed before the node is locked")
	try(g, k, n)
	return true
}

// P12.1: the page is read while the node is locked. What it was before does not matter, nor does the word in the latch.
func TestPageIsReadWhileLocked(t *testing.T) {
	targets(t, func(g *tree, k *Lock, n *member) {
		if n.page.Level == 0 {
			n.page.Slots = []api.Slot{{Key: n.low, Ref: 4711}}
		}
		g.put(n.id, n.page)
		g.setWord(n.id, g.word(n.id)+4)
		g.run(t, k)
		g.expectHeld(t, "P12.1: the page in the locked node", k, n)
	})
}

// P12.1: a writer that has locked the node before the Lock could changes it, and releases it while the Lock waits.
func TestPageChangesWhileLockWaits(t *testing.T) {
	targets(t, func(g *tree, k *Lock, n *member) {
		word := g.word(n.id)
		g.setWord(n.id, latch.Lock(word))
		g.wait(t, "P12.1: the node is locked", k)
		g.setWord(n.id, latch.Begin(latch.Lock(word)))
		g.wait(t, "P12.1: the node is changing", k)
		if n.page.Level == 0 {
			n.page.Slots = []api.Slot{{Key: n.low, Ref: 4711}}
		}
		g.put(n.id, n.page)
		g.setWord(n.id, latch.Lock(word)+4)
		g.wait(t, "P12.1: the node has been changed, but not released", k)
		g.unlock(n.id)
		g.run(t, k)
		g.expectHeld(t, "P12.1: the page after the change", k, n)
	})
}

// splits returns some low keys for the parts into which a node is split, the last of which covers a key; none if it cannot be split.
func (g *tree) splits(n *member, key string) []string {
	lows := within(probes(), n.low+"\x00", key+"\x00", false)
	return g.some(lows, 1+g.roll(3))
}

// P12.1: nodes that do not cover the key any more are released as they were, one after the other, until one of them covers it.
func TestGoesRight(t *testing.T) {
	most := 0
	targets(t, func(g *tree, k *Lock, n *member) {
		lows := g.splits(n, k.key)
		for _, low := range lows {
			n = g.split(n, low)
		}
		most = max(most, len(lows))
		g.run(t, k)
		g.expectHeld(t, "P12.1: the part of the node that covers the key", k, n)
	})
	if most < 3 {
		t.Errorf("the test does too little: %d splits", most)
	}
}

// P12.2: while somebody has locked the node on the right, the Lock has released the one on the left, so that others can lock that one.
func TestWaitsWithoutALock(t *testing.T) {
	waits := 0
	targets(t, func(g *tree, k *Lock, n *member) {
		path := []*member{n}
		for _, low := range g.splits(n, k.key) {
			path = append(path, g.split(path[len(path)-1], low))
		}
		for _, x := range path {
			g.setWord(x.id, latch.Lock(g.word(x.id)))
		}
		for _, x := range path {
			g.wait(t, "P12.2: the node is locked", k)
			g.expect(t, "P12.2: while a Lock waits it has no latch locked, and has left all nodes as they were")
			g.unlock(x.id)
			waits++
		}
		g.run(t, k)
		g.expectHeld(t, "P12.1: after all of them have been released", k, path[len(path)-1])
	})
	if waits < 2000 {
		t.Errorf("the test does too little: %d nodes were locked", waits)
	}
}

// P12.1: a Lock that finds its node locked, and then split, goes on to the right from node to node. It waits for each of them, also if
// the last one is not locked.
func TestSplitWhileLockWaits(t *testing.T) {
	targets(t, func(g *tree, k *Lock, n *member) {
		path := []*member{n}
		g.setWord(n.id, latch.Lock(g.word(n.id)))
		g.wait(t, "P12.1: the node is locked", k)
		for _, low := range g.splits(n, k.key) {
			n = g.split(n, low)
			g.setWord(n.id, latch.Lock(g.word(n.id)))
			path = append(path, n)
		}
		if len(path) > 1 && g.roll(2) == 0 {
			g.unlock(n.id)
			path = path[:len(path)-1]
		}
		for _, x := range path {
			g.wait(t, "P12.1: a node on the way to the right is locked", k)
			g.expect(t, "P12.2: while a Lock waits it has no latch locked, and has left all nodes as they were")
			g.unlock(x.id)
		}
		g.run(t, k)
		g.expectHeld(t, "P12.1: after the splits", k, n)
	})
}

// P12.1: Root is loaded once, first. If the root grows after that, the level is still above the root.
func TestRootGrows(t *testing.T) {
	for seed := range trees {
		g := newTree(t, seed)
		top := len(g.levels) - 1
		if top == 0 {
			continue
		}
		for _, key := range []string{"", "a\xff", "b", "\xff"} {
			root := g.levels[top][0].id
			g.setN(g.l.Root(), g.levels[top-1][0].id)
			k, none := NewLock(g.l, key, 0), NewLock(g.l, key, top)
			g.step(t, k)
			g.step(t, none)
			g.setN(g.l.Root(), root)
			g.run(t, none)
			expectNone(t, "P12.1: the root was on a lower level", none)
			g.expect(t, "P12.1: nothing is locked")
			g.run(t, k)
			n := g.covering(key, 0)
			g.expectHeld(t, "P12.1: from the old root", k, n)
			g.unlock(n.id)
		}
	}
}

// Rule 3: each result is new memory, which nobody else knows.
func TestResultsAreNew(t *testing.T) {
	g := newTree(t, 5)
	for _, n := range g.levels[0] {
		k := NewLock(g.l, n.low, 0)
		g.run(t, k)
		for range 3 {
			g.expectHeld(t, "rule 3", k, n)
			p := k.Held().Page
			_ = append(p.Slots, api.Slot{Key: "z"})
			clear(p.Slots)
		}
	}
}

// expectNothing reports an error if a Lock in this memory does not finish without a node, or leaves something changed.
func (d *database) expectNothing(t *testing.T, key string) {
	t.Helper()
	k := NewLock(d.l, key, 0)
	d.run(t, k)
	expectNone(t, "rule 1: there is no node", k)
	d.expect(t, "rule 1: nothing is locked")
}

// noNodes are numbers that no node has if there are six nodes.
var noNodes = []uint64{0, 7, 8, 1<<32 + 1, 1<<63 + 2, math.MaxUint64}

// Rule 1: in a memory in which there is no node to go to, a Lock finishes without one.
func TestNoNode(t *testing.T) {
	for _, id := range noNodes {
		d := start(t, 6, 4)
		d.setN(d.l.Root(), id)
		d.expectNothing(t, "k")
		d.setN(d.l.Root(), 3)
		d.put(3, api.Page{High: "c", Right: id})
		d.expectNothing(t, "k")
		d.put(3, api.Page{Level: 1, Last: true, Slots: []api.Slot{{Key: "", Ref: id}}})
		d.expectNothing(t, "k")
		d.put(3, api.Page{Level: 1, Last: true, Slots: []api.Slot{{Key: "l", Ref: 1}}})
		d.expectNothing(t, "k")
	}
}

// Rule 1: if the right sibling does not exist, a Lock that has to go there has nothing locked in the end.
func TestNoRightSibling(t *testing.T) {
	for _, id := range noNodes {
		d := start(t, 6, 4)
		d.setN(d.l.Root(), 3)
		d.put(3, api.Page{Last: true})
		d.setWord(3, 41)
		k := NewLock(d.l, "k", 0)
		d.wait(t, "P12.1", k)
		d.put(3, api.Page{High: "c", Right: id})
		d.setWord(3, 44)
		d.run(t, k)
		expectNone(t, "rule 1: there is no node", k)
		d.expect(t, "rule 1: nothing is locked")
	}
}

// Rule 1, P2.4: in any memory, each step makes one access and comes to its end, and a Lock has locked at most one latch.
func TestAnyMemory(t *testing.T) {
	for seed := range 100 {
		for _, key := range []string{"", "a", "b\xff", "\xff\xff\xff"} {
			for _, level := range []int{0, 1, -1} {
				g := damaged(t, seed)
				k := NewLock(g.l, key, level)
				for steps := 0; steps < patience && !g.step(t, k); steps++ {
				}
				if id := k.Held().ID; id != 0 && k.Held().Word != g.word(id) {
					t.Fatal("P12.1: the word is not that of the latch")
				}
			}
		}
	}
	few, _ := memory.New(1)
	g := newTree(t, 0)
	g.m, g.want = few, []api.Cell{{}}
	g.expectNothing(t, "k")
}

// damaged returns a tree in whose memory some cells are wrong.
func damaged(t *testing.T, seed int) *tree {
	t.Helper()
	g := newTree(t, seed)
	for range 30 {
		c := api.Cell{N: uint64(g.roll(70)), K: universe()[g.roll(len(universe()))], M: uint64(g.roll(4))}
		if g.roll(8) == 0 {
			c.N, c.M = math.MaxUint64-c.N, math.MaxUint64-c.M
		}
		g.set(g.roll(g.m.Cells()), c)
	}
	return g
}
