package post

import (
	"slices"
	"testing"

	"blinktree/api"
	"blinktree/descent"
	"blinktree/latch"
	"blinktree/layout"
	"blinktree/memory"
	"blinktree/node"
	"blinktree/page"
)

// machine is what P2.4 asks of Post, and of the machines beside it.
type machine interface{ Step(m *memory.Memory) bool }

// patience is a number of steps that is enough for every machine of these tests if it does not have to wait.
const patience = 2000

// growWord is the word in the latch Grow while it is not locked. The words in the latches of nodes that are not in use yet are at least
// unusedWord.
const growWord, unusedWord = 4 * 77, 4 * 100000

// database is a memory with a tree. All other cells are different, so that none of them can be taken for another one.
type database struct {
	l layout.Layout
	m *memory.Memory
}

// newDatabase returns a database with a tree.
func newDatabase(t *testing.T, r *tree) *database {
	t.Helper()
	l, m, err := layout.Start(api.Config{Threads: 2, Snapshots: 1, Nodes: r.limit, Chains: 3, Records: 2, Fanout: r.fanout, Clock: 9})
	if err != api.OK {
		t.Fatal(err)
	}
	d := &database{l: l, m: m}
	for i := range m.Cells() {
		// No N is the word of a locked latch.
		m.Poke(i, api.Cell{N: unusedWord + 4*uint64(i), K: "x\xff\xff\xff\xff\xff\xff"[:i%7+1], M: 200000 + uint64(i)})
	}
	m.Poke(l.Grow(), api.Cell{N: growWord})
	d.put(r)
	return d
}

// put stores a tree.
func (d *database) put(r *tree) {
	d.m.Poke(d.l.Root(), api.Cell{N: r.root})
	d.m.Poke(d.l.Nodes(), api.Cell{N: uint64(len(r.nodes))})
	for _, h := range r.nodes {
		p := h.Page
		d.setWord(h.ID, h.Word)
		d.m.Poke(d.l.Head(h.ID), api.Cell{N: uint64(len(p.Slots)), M: uint64(p.Level)})
		d.m.Poke(d.l.High(h.ID), api.Cell{K: p.High})
		if p.Last {
			d.m.Poke(d.l.High(h.ID), api.Cell{M: 1})
		}
		d.m.Poke(d.l.Right(h.ID), api.Cell{N: p.Right})
		for i, s := range p.Slots {
			d.m.Poke(d.l.Slot(h.ID, i), api.Cell{N: s.Ref, K: s.Key})
		}
	}
}

// word returns the word in the latch of a node.
func (d *database) word(id uint64) uint64 { return d.m.Peek(d.l.Latch(id)).N }

// setWord changes the word in the latch of a node.
func (d *database) setWord(id, word uint64) { d.m.Poke(d.l.Latch(id), api.Cell{N: word}) }

// used returns the number of nodes that are in use.
func (d *database) used() uint64 { return d.m.Peek(d.l.Nodes()).N }

// begin makes the machine that does a job.
func (d *database) begin(j job) *Post { return NewPost(d.l, j.level, j.separator, j.child) }

// cells returns all cells.
func (d *database) cells() []api.Cell {
	list := make([]api.Cell, d.m.Cells())
	for i := range list {
		list[i] = d.m.Peek(i)
	}
	return list
}

// unused returns the addresses of the slots of a tree that have no meaning, because their nodes have fewer slots.
func (d *database) unused(r *tree) []int {
	var list []int
	for _, h := range r.nodes {
		for i := len(h.Page.Slots); i < r.fanout; i++ {
			list = append(list, d.l.Slot(h.ID, i))
		}
	}
	return list
}

// expect reports an error if the memory is not that of a database with this tree.
func (d *database) expect(t *testing.T, promise string, r *tree) {
	t.Helper()
	unused := d.unused(r)
	for i, want := range newDatabase(t, r).cells() {
		if d.m.Peek(i) != want && !slices.Contains(unused, i) {
			t.Fatalf("%s: cell %d is %#v, want %#v", promise, i, d.m.Peek(i), want)
		}
	}
}

// step makes a step of a Post that has not finished, which must be one access, and reports whether it has finished with it.
func (d *database) step(t *testing.T, p *Post) bool {
	t.Helper()
	if p.Posted() {
		t.Fatal("P2.4: Posted before the end")
	}
	accesses := d.m.Accesses()
	finished := p.Step(d.m)
	if d.m.Accesses() != accesses+1 {
		t.Fatalf("P2.4: %d accesses in one step", d.m.Accesses()-accesses)
	}
	return finished
}

// steps makes some steps of a Post, and reports whether it has finished.
func (d *database) steps(t *testing.T, p *Post, n int) bool {
	t.Helper()
	for range n {
		if d.step(t, p) {
			return true
		}
	}
	return false
}

// run makes all steps of a Post, and reports an error if its result is not as wanted.
func (d *database) run(t *testing.T, p *Post, want bool) {
	t.Helper()
	if !d.steps(t, p, patience) {
		t.Fatal("P14.1, P14.2: a Post does not finish")
	}
	d.expectFinished(t, p, want)
}

// expectFinished makes three more steps of a Post, which must be no accesses, and change neither the memory nor the result.
func (d *database) expectFinished(t *testing.T, p *Post, want bool) {
	t.Helper()
	accesses, cells := d.m.Accesses(), d.cells()
	for range 3 {
		if p.Posted() != want {
			t.Fatalf("P14.3: Posted is %t, want %t", p.Posted(), want)
		}
		if !p.Step(d.m) {
			t.Fatal("P2.4: a finished machine says that it has not finished")
		}
	}
	if d.m.Accesses() != accesses || !slices.Equal(d.cells(), cells) {
		t.Fatal("P2.4: a step of a finished machine has an effect")
	}
}

// search is a Find of a slot that is on a level.
type search struct {
	find *descent.Find
	slot api.Slot
	done bool
}

// look begins to look for a slot on a level.
func (d *database) look(level int, s api.Slot) *search {
	return &search{find: descent.NewFind(d.l, s.Key, level), slot: s}
}

// lookAll begins to look for all slots of a tree.
func (d *database) lookAll(r *tree) []*search {
	var list []*search
	for _, h := range r.nodes {
		for _, s := range h.Page.Slots {
			list = append(list, d.look(h.Page.Level, s))
		}
	}
	return list
}

// advance makes some steps of a search, and reports an error if it ends without the slot.
func (d *database) advance(t *testing.T, x *search, steps int) {
	t.Helper()
	for ; steps > 0 && !x.done; steps-- {
		if x.done = x.find.Step(d.m); x.done {
			id, p := x.find.Node()
			i, in := page.Find(p, x.slot.Key)
			if id == 0 || !in || p.Slots[i] != x.slot {
				t.Fatalf("P14.4: %q is not found, but node %d, %#v", x.slot.Key, id, p)
			}
		}
	}
}

// expectFound reports an error if a slot of a tree is not found.
func (d *database) expectFound(t *testing.T, r *tree) {
	t.Helper()
	for _, x := range d.lookAll(r) {
		if d.advance(t, x, patience); !x.done {
			t.Fatalf("P14.4: %q is not found", x.slot.Key)
		}
	}
}

// survey returns the tree that is in the memory, and reports an error if it is not a valid one, if a node is in use but not on its level,
// or if a latch is locked.
func (d *database) survey(t *testing.T) *tree {
	t.Helper()
	c := d.l.Config()
	r := &tree{root: d.m.Peek(d.l.Root()).N, fanout: c.Fanout, limit: c.Nodes}
	for id := uint64(1); id <= d.used(); id++ {
		h := api.Held{ID: id, Word: d.word(id), Page: node.Peek(d.l, d.m, id)}
		if !page.Check(h.Page, c.Fanout) || latch.Locked(h.Word) || latch.Changing(h.Word) {
			t.Fatalf("P14.1, P14.2: node %d has the word %d and the page %#v", id, h.Word, h.Page)
		}
		r.nodes = append(r.nodes, h)
	}
	if d.m.Peek(d.l.Grow()) != (api.Cell{N: growWord}) {
		t.Fatalf("P14.2: Grow is %#v", d.m.Peek(d.l.Grow()))
	}
	r.expectLinks(t)
	return r
}

// expectLinks reports an error if the nodes are not linked as they must be.
func (r *tree) expectLinks(t *testing.T) {
	t.Helper()
	count := 0
	lows := map[uint64]string{}
	for level := range r.at(r.root).Page.Level + 1 {
		low := ""
		for _, h := range r.row(level) {
			count++
			lows[h.ID] = low
			for i, s := range h.Page.Slots {
				if s.Key < low || i == 0 && level > 0 && s.Key != low {
					t.Fatalf("P14.1: node %d has the low key %q and the slots %v", h.ID, low, h.Page.Slots)
				}
				if level == 0 {
					continue
				}
				if child, known := lows[s.Ref]; !known || child != s.Key || r.at(s.Ref).Page.Level != level-1 {
					t.Fatalf("P14.1: node %d on level %d has the slot %v", h.ID, level, s)
				}
			}
			low = h.Page.High
		}
	}
	if count != len(r.nodes) || len(lows) != count {
		t.Fatalf("P14.2: %d nodes are in use, but %d are on their levels", len(r.nodes), count)
	}
}

// expectComplete reports an error if a node has no slot in the level above it, or if the root has a right sibling.
func (r *tree) expectComplete(t *testing.T) {
	t.Helper()
	top := r.at(r.root).Page.Level
	if n := len(r.row(top)); n != 1 {
		t.Fatalf("P14.1, P14.2: %d nodes are on the level of the root", n)
	}
	for level := range top {
		slots := 0
		for _, h := range r.row(level + 1) {
			slots += len(h.Page.Slots)
		}
		if n := len(r.row(level)); slots != n {
			t.Fatalf("P14.1: on level %d are %d nodes, but above it %d slots", level, n, slots)
		}
	}
}

// leafSlots returns the slots of the leaves in their order.
func (r *tree) leafSlots() []api.Slot {
	var list []api.Slot
	for _, h := range r.row(0) {
		list = append(list, h.Page.Slots...)
	}
	return list
}
