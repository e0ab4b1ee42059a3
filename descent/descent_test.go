package descent

import (
	"math"
	"slices"
	"testing"

	"blinktree/api"
	"blinktree/latch"
	"blinktree/layout"
	"blinktree/memory"
)

// trees is the number of trees on which the machines are tried.
const trees = 150

// P11.1: the examples, and P11.2 in the same memory.
func TestEmptyDatabase(t *testing.T) {
	l, m, err := layout.Start(api.Config{Threads: 1, Snapshots: 1, Nodes: 1, Chains: 1, Records: 1, Fanout: 4, Clock: 1})
	if err != api.OK {
		t.Fatal(err)
	}
	d := &database{l: l, m: m}
	leaf := found{id: 1, page: api.Page{Last: true}}
	for _, key := range probes() {
		f, none := NewFind(l, key, 0), NewFind(l, key, 1)
		d.run(t, f)
		expectNode(t, "P11.1", f, leaf)
		d.run(t, none)
		expectNone(t, "P11.1", none)
		for _, last := range []bool{false, true} {
			if key == "" && !last {
				continue
			}
			b := NewBelow(l, key, last)
			d.run(t, b)
			expectNode(t, "P11.2", b, leaf)
		}
	}
}

// P11.1: all keys on all levels of trees of all shapes, in which some separators have not been posted.
func TestFind(t *testing.T) {
	for seed := range trees {
		g := newTree(t, seed)
		for _, key := range probes() {
			for level := range g.levels {
				f := NewFind(g.l, key, level)
				g.run(t, f)
				expectNode(t, "P11.1", f, g.covering(key, level))
			}
		}
		g.expect(t, "P11.1: a Find changes nothing")
	}
}

// P11.1: the levels above the root, and those that cannot exist.
func TestFindNoLevel(t *testing.T) {
	for seed := range trees {
		g := newTree(t, seed)
		for _, key := range []string{"", "a", "b\x00", "\xff\xff"} {
			for _, level := range append([]int{len(g.levels), len(g.levels) + 1}, noLevels...) {
				f := NewFind(g.l, key, level)
				g.run(t, f)
				expectNone(t, "P11.1: no such level", f)
			}
		}
		g.expect(t, "P11.1: a Find changes nothing")
	}
}

// P11.2: all keys, and the end, in the same trees. With last, the key does not matter.
func TestBelow(t *testing.T) {
	for seed := range trees {
		g := newTree(t, seed)
		for _, key := range probes() {
			for _, last := range []bool{false, true} {
				if key == "" && !last {
					continue
				}
				b := NewBelow(g.l, key, last)
				g.run(t, b)
				expectNode(t, "P11.2", b, g.leafBelow(key, last))
			}
		}
		g.expect(t, "P11.2: a Below changes nothing")
	}
}

// P11.2: the empty key finishes in the first step, without an access, whatever is in the memory.
func TestBelowEmptyKey(t *testing.T) {
	for seed := range trees {
		g := newTree(t, seed)
		b := NewBelow(g.l, "", false)
		expectNone(t, "P2.4: before the end", b)
		g.expectFinished(t, b)
		expectNone(t, "P11.2: the empty key", b)
		if g.m.Accesses() != 0 {
			t.Fatal("P11.2: the empty key makes an access")
		}
	}
}

// P11.2: from the end, with the low key of each leaf, a Below comes to all leaves from the right to the left.
func TestBelowGoesOn(t *testing.T) {
	for seed := range trees {
		g := newTree(t, seed)
		leaves := g.levels[0]
		b := NewBelow(g.l, "", true)
		for i := range leaves {
			g.run(t, b)
			n := leaves[len(leaves)-1-i]
			expectNode(t, "P11.2", b, found{n.id, n.page, n.low})
			_, _, low := b.Node()
			b = NewBelow(g.l, low, false)
		}
		g.expectFinished(t, b)
		expectNone(t, "P11.2: no leaf is left", b)
	}
}

// P2.4: making a machine makes no access, and the memory is read when the steps are made.
func TestMachinesReadLate(t *testing.T) {
	g := newTree(t, 1)
	root := g.m.Peek(g.l.Root())
	g.m.Poke(g.l.Root(), api.Cell{})
	f, b := NewFind(g.l, "b", 0), NewBelow(g.l, "b", false)
	if g.m.Accesses() != 0 {
		t.Error("P2.4: making a machine makes an access")
	}
	g.m.Poke(g.l.Root(), root)
	g.run(t, f)
	g.run(t, b)
	expectNode(t, "P11.1", f, g.covering("b", 0))
	expectNode(t, "P11.2", b, g.leafBelow("b", false))
}

// P11.1, P11.2: Root is loaded once, first. If another node becomes the root after that, or before, that is as good.
func TestRootChanges(t *testing.T) {
	for seed := range trees {
		g := newTree(t, seed)
		if len(g.levels) < 2 {
			continue
		}
		lower := g.levels[len(g.levels)-2]
		for _, key := range []string{"\x00", "a\xff", "b", "\xff"} {
			g.setN(g.l.Root(), lower[0].id)
			f, none, b := NewFind(g.l, key, 0), NewFind(g.l, key, len(g.levels)-1), NewBelow(g.l, key, false)
			for _, x := range []machine{f, none, b} {
				if g.step(t, x) {
					t.Fatal("P11.1: finished without a page")
				}
			}
			g.setN(g.l.Root(), g.root().id)
			for _, x := range []machine{f, none, b} {
				g.run(t, x)
			}
			expectNode(t, "P11.1", f, g.covering(key, 0))
			expectNone(t, "P11.1: the root was on a lower level", none)
			expectNode(t, "P11.2", b, g.leafBelow(key, false))
		}
	}
}

// expectPath reports an error if a machine does not read the nodes of a path, or reads other ones: it waits for those that are
// changing, and then goes on from their pages.
func (g *tree) expectPath(t *testing.T, promise string, newMachine func() machine, path []uint64, want found) {
	t.Helper()
	for _, nodes := range g.levels {
		for _, n := range nodes {
			word := g.m.Peek(g.l.Latch(n.id)).N
			g.setN(g.l.Latch(n.id), latch.Begin(word))
			x := newMachine()
			waits := slices.Contains(path, n.id)
			if waits {
				for range patience {
					if g.step(t, x) {
						t.Fatalf("%s: %s does not wait for node %d on its path %v", promise, nameOf(x), n.id, path)
					}
				}
				g.setN(g.l.Latch(n.id), latch.End(word))
			}
			g.run(t, x)
			expectNode(t, promise, x, want)
			g.setN(g.l.Latch(n.id), latch.End(word))
		}
	}
}

// P11.1, P11.2: the nodes that are read are those that the chapter says. A latch that is locked is no reason to wait.
func TestPaths(t *testing.T) {
	for seed := range 12 {
		g := newTree(t, seed*7)
		for _, key := range probes() {
			if g.roll(8) > 0 {
				continue
			}
			for level := range g.levels {
				find := func() machine { return NewFind(g.l, key, level) }
				g.expectPath(t, "P11.1", find, g.pathOfFind(key, level), g.covering(key, level))
			}
			last := g.roll(4) == 0 || key == ""
			below := func() machine { return NewBelow(g.l, key, last) }
			g.expectPath(t, "P11.2", below, g.pathOfBelow(key, last), g.leafBelow(key, last))
		}
	}
}

// P11.1, P11.2: a page that changes while it is read is read again, so that the page is a validated one.
func TestPagesAreValidated(t *testing.T) {
	g := newTree(t, 3)
	for _, n := range g.levels[0] {
		other := n.page
		other.Slots = []api.Slot{{Key: n.low, Ref: 4711}}
		for _, newMachine := range []func() machine{
			func() machine { return NewFind(g.l, n.low, 0) },
			func() machine { return NewBelow(g.l, n.low+"\x00", false) },
		} {
			before := g.m.Accesses()
			g.run(t, newMachine())
			for k := range g.m.Accesses() - before {
				x := newMachine()
				for range k {
					g.step(t, x)
				}
				word := g.m.Peek(g.l.Latch(n.id)).N
				g.put(n.id, other)
				g.setN(g.l.Latch(n.id), latch.End(word))
				g.run(t, x)
				want := found{id: n.id, page: other, low: n.low}
				if _, ok := x.(*Find); ok {
					want.low = ""
				}
				expectNode(t, "P11.1, P11.2: a validated page", x, want)
				g.put(n.id, n.page)
			}
		}
	}
}

// Rule 3: each result is new memory, which nobody else knows.
func TestResultsAreNew(t *testing.T) {
	g := newTree(t, 5)
	for _, n := range g.levels[0] {
		if len(n.page.Slots) == 0 {
			continue
		}
		f, b := NewFind(g.l, n.low, 0), NewBelow(g.l, n.low+"\x00", false)
		g.run(t, f)
		g.run(t, b)
		for range 3 {
			for _, x := range []machine{f, b} {
				r := resultOf(x)
				if !same(r.page, n.page) {
					t.Fatalf("rule 3: the page is %#v, want %#v", r.page, n.page)
				}
				_ = append(r.page.Slots, api.Slot{Key: "z"})
				clear(r.page.Slots)
			}
		}
	}
	g.expect(t, "rule 3")
}

// expectNothing reports an error if a Find or a Below in this memory does not finish without a node.
func (d *database) expectNothing(t *testing.T, key string) {
	t.Helper()
	f, b, last := NewFind(d.l, key, 0), NewBelow(d.l, key, false), NewBelow(d.l, key, true)
	for _, x := range []machine{f, b, last} {
		d.run(t, x)
		expectNone(t, "rule 1: there is no node", x)
	}
}

// Rule 1: in a memory in which there is no node to go to, the machines finish without one.
func TestNoNode(t *testing.T) {
	for _, root := range []uint64{0, 7, 8, 1<<32 + 1, 1<<63 + 2, math.MaxUint64} {
		d := start(t, 6, 4)
		d.setN(d.l.Root(), root)
		d.expectNothing(t, "k")
	}
	for _, p := range []api.Page{
		{Level: 0, High: "c"},
		{Level: 1, High: "c", Slots: []api.Slot{{Key: "", Ref: 1}}},
		{Level: 1, High: "c", Right: 7, Slots: []api.Slot{{Key: "", Ref: 1}}},
		{Level: 1, Last: true},
		{Level: 2, Last: true, Slots: []api.Slot{{Key: "", Ref: 0}}},
		{Level: 2, Last: true, Slots: []api.Slot{{Key: "", Ref: 7}}},
	} {
		d := start(t, 6, 4)
		d.setN(d.l.Root(), 3)
		d.put(3, p)
		d.expectNothing(t, "k")
		d.expect(t, "rule 1")
	}
	d := start(t, 6, 4)
	d.setN(d.l.Root(), 3)
	d.put(3, api.Page{Level: 1, Last: true, Slots: []api.Slot{{Key: "l", Ref: 1}}})
	f, b := NewFind(d.l, "k", 0), NewBelow(d.l, "l", false)
	for _, x := range []machine{f, b} {
		d.run(t, x)
		expectNone(t, "rule 1: there is no child", x)
	}
}

// Rule 1, P2.4: in any memory, each step makes one access and comes to its end, and nothing is changed.
func TestAnyMemory(t *testing.T) {
	for seed := range 300 {
		g := newTree(t, seed)
		for range 30 {
			c := api.Cell{N: uint64(g.roll(70)), K: universe()[g.roll(44)], M: uint64(g.roll(4))}
			if g.roll(8) == 0 {
				c.N, c.M = math.MaxUint64-c.N, math.MaxUint64-c.M
			}
			g.set(g.roll(g.m.Cells()), c)
		}
		for _, key := range []string{"", "a", "b\xff", "\xff\xff\xff"} {
			finds := []machine{NewFind(g.l, key, 0), NewFind(g.l, key, 2), NewFind(g.l, key, -1)}
			for _, x := range append(finds, NewBelow(g.l, key+"\x00", false), NewBelow(g.l, key, true)) {
				for steps := 0; steps < patience && !g.step(t, x); steps++ {
				}
				resultOf(x)
			}
		}
		g.expect(t, "rule 1")
	}
	few, _ := memory.New(1)
	g := newTree(t, 0)
	g.m, g.want = few, []api.Cell{{}}
	g.expectNothing(t, "k")
	g.expect(t, "rule 1")
}
