package commit

import (
	"slices"
	"testing"

	"blinktree/api"
	"blinktree/chain"
	"blinktree/descent"
	"blinktree/latch"
	"blinktree/layout"
	"blinktree/memory"
	"blinktree/node"
	"blinktree/page"
	"blinktree/record"
)

// machine is what P2.4 asks of Apply, and of the machines beside it.
type machine interface{ Step(m *memory.Memory) bool }

// patience is a number of steps that is enough for every machine of these tests if it does not have to wait.
const patience = 4000

// growWord is the word in the latch Grow while it is not locked. The words in the latches of nodes that are not in use yet are at least
// unusedWord.
const growWord, unusedWord = 4 * 77, 4 * 100000

// database is a memory with a state. The cells that have no meaning yet are all different, so that none of them can be taken for another.
type database struct {
	l layout.Layout
	m *memory.Memory
}

// newDatabase returns a database in a state.
func newDatabase(t *testing.T, s *state) *database {
	t.Helper()
	n := s.limits
	l, m, err := layout.Start(api.Config{
		Threads: 2, Snapshots: 1, Nodes: n.nodes, Chains: n.chains, Records: n.records, Fanout: s.fanout, Clock: n.clock,
	})
	if err != api.OK {
		t.Fatal(err)
	}
	d := &database{l: l, m: m}
	for i := range m.Cells() {
		// No N is the word of a locked latch.
		m.Poke(i, api.Cell{N: unusedWord + 4*uint64(i), K: "x\xff\xff\xff\xff\xff\xff"[:i%7+1], M: 200000 + uint64(i)})
	}
	for c := range uint64(n.chains) {
		m.Poke(l.Chain(c+1), api.Cell{})
	}
	for r := range uint64(n.records) {
		m.Poke(l.Stamp(r+1), api.Cell{})
	}
	m.Poke(l.Grow(), api.Cell{N: growWord})
	d.put(s)
	return d
}

// put stores a state.
func (d *database) put(s *state) {
	d.set(d.l.Root(), s.root)
	d.set(d.l.Allocated(), s.time)
	d.set(d.l.Published(), s.time)
	d.set(d.l.Nodes(), uint64(len(s.nodes)))
	d.set(d.l.Chains(), uint64(len(s.heads)))
	d.set(d.l.Records(), uint64(len(s.records)))
	for _, h := range s.nodes {
		d.putNode(h)
	}
	for i, head := range s.heads {
		d.set(d.l.Chain(uint64(i)+1), head)
	}
	for i, e := range s.records {
		r := uint64(i) + 1
		d.set(d.l.Stamp(r), e.Stamp)
		d.set(d.l.Next(r), e.next)
		d.m.Poke(d.l.Value(r), api.Cell{K: e.Value})
		if e.Delete {
			d.m.Poke(d.l.Value(r), api.Cell{M: 1})
		}
	}
}

// set changes a cell that contains a number.
func (d *database) set(i int, n uint64) { d.m.Poke(i, api.Cell{N: n}) }

// putNode stores a node.
func (d *database) putNode(h api.Held) {
	p := h.Page
	d.set(d.l.Latch(h.ID), h.Word)
	d.m.Poke(d.l.Head(h.ID), api.Cell{N: uint64(len(p.Slots)), M: uint64(p.Level)})
	d.m.Poke(d.l.High(h.ID), api.Cell{K: p.High})
	if p.Last {
		d.m.Poke(d.l.High(h.ID), api.Cell{M: 1})
	}
	d.set(d.l.Right(h.ID), p.Right)
	for i, s := range p.Slots {
		d.m.Poke(d.l.Slot(h.ID, i), api.Cell{N: s.Ref, K: s.Key})
	}
}

// word returns the word in the latch of a node.
func (d *database) word(id uint64) uint64 { return d.m.Peek(d.l.Latch(id)).N }

// published returns the last published timestamp.
func (d *database) published() uint64 { return d.m.Peek(d.l.Published()).N }

// used returns the number of nodes that are in use.
func (d *database) used() uint64 { return d.m.Peek(d.l.Nodes()).N }

// cells returns all cells.
func (d *database) cells() []api.Cell {
	list := make([]api.Cell, d.m.Cells())
	for i := range list {
		list[i] = d.m.Peek(i)
	}
	return list
}

// expect reports an error if the database is not in a state.
func (d *database) expect(t *testing.T, promise string, s *state) {
	t.Helper()
	other := newDatabase(t, s)
	// The slots of a node beyond their number have no meaning.
	for _, h := range s.nodes {
		for i := len(h.Page.Slots); i < s.fanout; i++ {
			other.m.Poke(d.l.Slot(h.ID, i), d.m.Peek(d.l.Slot(h.ID, i)))
		}
	}
	for i, want := range other.cells() {
		if d.m.Peek(i) != want {
			t.Fatalf("%s: cell %d is %#v, want %#v", promise, i, d.m.Peek(i), want)
		}
	}
}

// step makes a step of an Apply that has not finished, which must be one access, and reports whether it has finished with it. The batch
// takes effect at most once, and there is an answer from this step on.
func (d *database) step(t *testing.T, a *Apply) bool {
	t.Helper()
	accesses, marks, answer := d.m.Accesses(), a.Marks(), a.Answer()
	finished := a.Step(d.m)
	if d.m.Accesses() != accesses+1 {
		t.Fatalf("P2.4: %d accesses in one step", d.m.Accesses()-accesses)
	}
	if a.Marks() < marks || a.Marks() > 1 || finished && a.Marks() != 1 {
		t.Fatalf("P16.4: Marks was %d, and is %d", marks, a.Marks())
	}
	if marks == 1 && a.Answer() != answer || a.Marks() == 0 && a.Answer() != (api.Answer{}) || a.Marks() == 1 && a.Answer() == (api.Answer{}) {
		t.Fatalf("P16.4: the answer was %v, and is %v, with Marks %d", answer, a.Answer(), a.Marks())
	}
	return finished
}

// steps makes some steps of an Apply, and reports whether it has finished.
func (d *database) steps(t *testing.T, a *Apply, n int) bool {
	t.Helper()
	for range n {
		if d.step(t, a) {
			return true
		}
	}
	return false
}

// each makes all steps of an Apply, and calls a function after each of them.
func (d *database) each(t *testing.T, a *Apply, look func()) {
	t.Helper()
	for range patience {
		finished := d.step(t, a)
		if look(); finished {
			return
		}
	}
	t.Fatal("P16.2, P16.3: an Apply does not finish")
}

// run makes all steps of an Apply, and reports an error if its answer is not as wanted.
func (d *database) run(t *testing.T, a *Apply, want api.Answer) {
	t.Helper()
	d.each(t, a, func() {})
	d.expectFinished(t, a, want)
}

// expectFinished makes three more steps of an Apply, which must be no accesses, and change neither the memory nor the results.
func (d *database) expectFinished(t *testing.T, a *Apply, want api.Answer) {
	t.Helper()
	accesses, cells := d.m.Accesses(), d.cells()
	for range 3 {
		if a.Answer() != want || a.Marks() != 1 {
			t.Fatalf("P16.2, P16.3, P16.4: the answer is %v with Marks %d, want %v", a.Answer(), a.Marks(), want)
		}
		if !a.Step(d.m) {
			t.Fatal("P2.4: a finished machine says that it has not finished")
		}
	}
	if d.m.Accesses() != accesses || !slices.Equal(d.cells(), cells) {
		t.Fatal("P2.4: a step of a finished machine has an effect")
	}
}

// leaves returns the leaves from the left to the right.
func (d *database) leaves() []api.Page {
	p := node.Peek(d.l, d.m, d.m.Peek(d.l.Root()).N)
	for p.Level > leafLevel {
		p = node.Peek(d.l, d.m, p.Slots[0].Ref)
	}
	list := []api.Page{p}
	for !p.Last {
		p = node.Peek(d.l, d.m, p.Right)
		list = append(list, p)
	}
	return list
}

// changing reports whether a node is changing, so that a reader that comes to it waits.
func (d *database) changing() bool {
	for id := uint64(1); id <= d.used(); id++ {
		if latch.Changing(d.word(id)) {
			return true
		}
	}
	return false
}

// contents returns the entries that a read at a time sees.
func (d *database) contents(time uint64) []api.Entry {
	var list []api.Entry
	for _, p := range d.leaves() {
		for _, s := range p.Slots {
			if value, ok := record.Value(chain.Peek(d.l, d.m, s.Ref), time); ok {
				list = append(list, api.Entry{Key: s.Key, Value: value})
			}
		}
	}
	return list
}

// reader is a machine that looks a key up at the last published timestamp.
type reader struct {
	l      layout.Layout
	key    string
	time   uint64
	begun  bool
	find   *descent.Find
	lookup *chain.Lookup
	value  string
	ok     bool
	done   bool
}

// read begins to look a key up.
func (d *database) read(key string) *reader {
	return &reader{l: d.l, key: key, find: descent.NewFind(d.l, key, leafLevel)}
}

func (r *reader) Step(m *memory.Memory) bool {
	switch {
	case r.done:
	case !r.begun:
		r.time, r.begun = m.Load(r.l.Published()).N, true
	case r.lookup != nil:
		if r.done = r.lookup.Step(m); r.done {
			r.value, r.ok = r.lookup.Value()
		}
	case r.find.Step(m):
		_, p := r.find.Node()
		if i, in := page.Find(p, r.key); in {
			r.lookup = chain.NewLookup(r.l, p.Slots[i].Ref, r.time)
		} else {
			r.done = true
		}
	}
	return r.done
}

// expect reports an error if a reader that has finished does not say what these entries are.
func (r *reader) expect(t *testing.T, entries []api.Entry) {
	t.Helper()
	want := api.Entry{Key: r.key}
	i := slices.IndexFunc(entries, func(e api.Entry) bool { return e.Key == r.key })
	if i >= 0 {
		want = entries[i]
	}
	if r.ok != (i >= 0) || r.value != want.Value {
		t.Fatalf("P16.5: a reader of %q at %d finds %q, %t, want %q, %t", r.key, r.time, r.value, r.ok, want.Value, i >= 0)
	}
}
