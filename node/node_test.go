package node

import (
	"math"
	"slices"
	"strings"
	"testing"

	"blinktree/api"
	"blinktree/latch"
	"blinktree/layout"
	"blinktree/memory"
)

// machine is what P2.4 asks of Read, Own, Write and Fresh.
type machine interface{ Step(m *memory.Memory) bool }

// words are words of a latch that is not changing.
var words = []uint64{0, 1, 4, 5, 8, 9, 1<<32 + 1, 1 << 63, math.MaxUint64 - 3, math.MaxUint64 - 2}

// noNodes are numbers that no node has if there are six nodes.
var noNodes = []uint64{0, 7, 8, 1<<16 + 1, 1<<32 + 1, 1<<63 + 2, math.MaxUint64}

// database is a memory whose cells are all different, so that none of them can be taken for another one.
type database struct {
	l    layout.Layout
	m    *memory.Memory
	want []api.Cell
}

// start returns a database with six nodes.
func start(t *testing.T, fanout int) *database {
	t.Helper()
	l, m, err := layout.Start(api.Config{Threads: 2, Snapshots: 3, Nodes: 6, Chains: 7, Records: 8, Fanout: fanout, Clock: 9})
	if err != api.OK {
		t.Fatal(err)
	}
	d := &database{l: l, m: m, want: make([]api.Cell, m.Cells())}
	for i := range d.want {
		d.set(i, api.Cell{N: 1000 + uint64(i), K: "x" + strings.Repeat("\xff", i%30), M: 2000 + uint64(i)})
	}
	return d
}

// set changes a cell, as another machine does between two steps.
func (d *database) set(i int, c api.Cell) {
	d.m.Poke(i, c)
	d.want[i] = c
}

// put stores a page in a node.
func (d *database) put(id uint64, p api.Page) {
	for i, c := range cellsOf(d.l, id, p) {
		d.set(i, c)
	}
}

// setLatch stores a word in the latch of a node.
func (d *database) setLatch(id, word uint64) { d.set(d.l.Latch(id), api.Cell{N: word}) }

// expect reports an error if a cell is not as it should be.
func (d *database) expect(t *testing.T, promise string) {
	t.Helper()
	for i, want := range d.want {
		if d.m.Peek(i) != want {
			t.Errorf("%s: cell %d is %#v, want %#v", promise, i, d.m.Peek(i), want)
		}
	}
}

// goOn makes steps of a machine that must not finish: each of them is one access.
func (d *database) goOn(t *testing.T, x machine, steps int) {
	t.Helper()
	for range steps {
		accesses := d.m.Accesses()
		if x.Step(d.m) {
			t.Fatal("P2.4: finished too early")
		}
		expectZero(t, x)
		if d.m.Accesses() != accesses+1 {
			t.Fatal("P2.4: a step is not one access")
		}
	}
}

// last makes the last step of a machine, which is one access, and then three more, which are none and change nothing.
func (d *database) last(t *testing.T, x machine) {
	t.Helper()
	accesses := d.m.Accesses()
	if !x.Step(d.m) {
		t.Fatal("P2.4: not finished")
	}
	after := d.m.Copy()
	for range 3 {
		if !x.Step(d.m) {
			t.Error("P2.4: a finished machine says that it has not finished")
		}
	}
	if d.m.Accesses() != accesses+1 {
		t.Error("P2.4: the last step is not one access, or a finished machine makes accesses")
	}
	for i := range d.m.Cells() {
		if d.m.Peek(i) != after.Peek(i) {
			t.Errorf("P2.4: a finished machine changes cell %d", i)
		}
	}
}

// run makes all steps of a machine, which must be so many.
func (d *database) run(t *testing.T, x machine, steps int) {
	t.Helper()
	expectZero(t, x)
	d.goOn(t, x, steps-1)
	d.last(t, x)
}

// expectZero reports an error if a machine that has not finished has a result.
func expectZero(t *testing.T, x machine) {
	t.Helper()
	switch x := x.(type) {
	case *Read:
		expectPage(t, "P2.4", x.Page(), api.Page{})
	case interface{ Held() api.Held }:
		expectHeld(t, "P2.4", x.Held(), api.Held{})
	}
}

// expectPage reports an error if a page is not the right one.
func expectPage(t *testing.T, promise string, p, want api.Page) {
	t.Helper()
	if !same(p, want) {
		t.Errorf("%s: the page is %#v, want %#v", promise, p, want)
	}
}

// expectHeld reports an error if a locked node is not the right one.
func expectHeld(t *testing.T, promise string, h, want api.Held) {
	t.Helper()
	if h.ID != want.ID || h.Word != want.Word || !same(h.Page, want.Page) {
		t.Errorf("%s: the node is %#v, want %#v", promise, h, want)
	}
}

// same reports whether two pages are equal.
func same(p, q api.Page) bool {
	return p.Level == q.Level && p.High == q.High && p.Last == q.Last && p.Right == q.Right && slices.Equal(p.Slots, q.Slots)
}

// cellsOf returns what the chapter says of the cells of a node with a page, all but the latch, by their addresses.
func cellsOf(l layout.Layout, id uint64, p api.Page) map[int]api.Cell {
	cells := map[int]api.Cell{
		l.Head(id):  {N: uint64(len(p.Slots)), M: uint64(p.Level)},
		l.High(id):  {K: p.High},
		l.Right(id): {N: p.Right},
	}
	if p.Last {
		cells[l.High(id)] = api.Cell{M: 1}
	}
	for i, s := range p.Slots {
		cells[l.Slot(id, i)] = api.Cell{N: s.Ref, K: s.Key}
	}
	return cells
}

// slotsOf returns n slots with ascending keys of all lengths and great and small references.
func slotsOf(n int, first string) []api.Slot {
	var slots []api.Slot
	for i := range n {
		key := first
		if i > 0 {
			key = "k" + strings.Repeat("\xff", i-1)
		}
		slots = append(slots, api.Slot{Key: key, Ref: uint64(1) << (i * 2 % 64)})
	}
	return slots
}

// pagesOf returns pages of a level: of all sizes, with and without a high key, and beside each other ones that differ in one
// part only.
func pagesOf(level, fanout int) []api.Page {
	var pages []api.Page
	for n := range fanout + 1 {
		for _, first := range []string{"", "\x00"} {
			slots := slotsOf(n, first)
			pages = append(pages,
				api.Page{Level: level, Slots: slots, Last: true},
				api.Page{Level: level, Slots: slots, High: strings.Repeat("m", api.MaxKey), Right: 2},
				api.Page{Level: level, Slots: slots, High: "l\x00", Right: 2},
				api.Page{Level: level, Slots: slots, High: "l\x00", Right: math.MaxUint64})
		}
	}
	other := slotsOf(fanout, "")
	other[fanout-1].Ref++
	other[0].Ref = math.MaxUint64
	return append(pages,
		api.Page{Level: level, Slots: other, Last: true},
		api.Page{Level: level, Slots: other[1:], Last: true},
		api.Page{Level: level, Right: 3})
}

// allPages returns pages of several levels.
func allPages(fanout int) []api.Page {
	var pages []api.Page
	for _, level := range []int{0, 1, 2, 63, 1 << 40} {
		pages = append(pages, pagesOf(level, fanout)...)
	}
	return pages
}

// P8.1: the example.
func TestReadEmpty(t *testing.T) {
	l, m, _ := layout.Start(api.Config{Threads: 1, Snapshots: 1, Nodes: 1, Chains: 1, Records: 1, Fanout: 4, Clock: 1})
	r := NewRead(l, 1)
	for !r.Step(m) {
	}
	expectPage(t, "P8.1", r.Page(), api.Page{Last: true})
	if m.Accesses() != 5 {
		t.Errorf("P8.1: %d accesses, want 5", m.Accesses())
	}
}

// P8.1, P8.5: all nodes with all pages, while nobody changes them; the latch may be locked.
func TestRead(t *testing.T) {
	for _, fanout := range []int{api.MinFanout, 5, api.MaxFanout} {
		d := start(t, fanout)
		for i, p := range allPages(fanout) {
			id := uint64(i%6) + 1
			d.put(id, p)
			d.setLatch(id, words[i%len(words)])
			r := NewRead(d.l, id)
			d.run(t, r, 5+len(p.Slots))
			expectPage(t, "P8.1", r.Page(), p)
			accesses := d.m.Accesses()
			expectPage(t, "P8.5", Peek(d.l, d.m, id), p)
			if d.m.Accesses() != accesses {
				t.Error("P8.5: Peek makes an access")
			}
		}
		d.expect(t, "P8.1")
	}
}

// P8.1: only N and K of the cells count as the chapter says; M of High means that there is no high key.
func TestReadUnusedParts(t *testing.T) {
	d := start(t, 5)
	p := api.Page{Level: 3, Slots: slotsOf(5, ""), High: "m", Right: 4}
	d.put(2, p)
	d.setLatch(2, 8)
	for _, i := range []int{d.l.Head(2), d.l.Right(2), d.l.Latch(2)} {
		c := d.m.Peek(i)
		c.K = "y"
		d.set(i, c)
	}
	for _, i := range []int{d.l.Latch(2), d.l.Right(2), d.l.Slot(2, 0), d.l.Slot(2, 4)} {
		c := d.m.Peek(i)
		c.M = 1
		d.set(i, c)
	}
	high := d.m.Peek(d.l.High(2))
	high.N = 1
	d.set(d.l.High(2), high)
	r, o := NewRead(d.l, 2), NewOwn(d.l, 2, 9)
	d.run(t, r, 10)
	d.run(t, o, 8)
	expectPage(t, "P8.1", r.Page(), p)
	expectHeld(t, "P8.2", o.Held(), api.Held{ID: 2, Word: 9, Page: p})
	expectPage(t, "P8.5", Peek(d.l, d.m, 2), p)
}

// readAfter returns a machine that has made so many steps of reading node 2, which has the page p and the word in its latch.
func (d *database) readAfter(t *testing.T, p api.Page, word uint64, steps int) *Read {
	t.Helper()
	d.put(2, p)
	d.setLatch(2, word)
	r := NewRead(d.l, 2)
	d.goOn(t, r, steps)
	return r
}

// P8.1: while the latch is changing from the start, or from any other time, Read waits, and it reads the page that it finds
// afterwards.
func TestReadWaits(t *testing.T) {
	d := start(t, 5)
	p, q := pagesOf(1, 5)[12], pagesOf(1, 5)[22]
	for _, word := range words {
		for steps := range 4 + len(p.Slots) + 1 {
			r := d.readAfter(t, p, word, steps)
			d.setLatch(2, latch.Begin(word))
			d.goOn(t, r, 50)
			d.put(2, q)
			d.goOn(t, r, 50)
			d.setLatch(2, latch.End(word))
			d.run(t, r, 5+len(q.Slots))
			expectPage(t, "P8.1", r.Page(), q)
		}
	}
	d.expect(t, "P8.1")
}

// P8.1: if the version changes between the first and the last step, Read begins again, however often that happens, and whether
// or not the page is another one; if it has changed before the first step, Read does not notice it.
func TestReadBeginsAgain(t *testing.T) {
	d := start(t, 5)
	pages := pagesOf(0, 5)
	for i, p := range pages {
		for steps := 1; steps < 5+len(p.Slots); steps++ {
			q := pages[(i*7+steps)%len(pages)]
			r := d.readAfter(t, p, 8, steps)
			d.setLatch(2, 12)
			d.goOn(t, r, 5+len(p.Slots)-steps)
			d.goOn(t, r, 1)
			d.put(2, q)
			d.setLatch(2, 17)
			d.goOn(t, r, 4+len(q.Slots))
			d.run(t, r, 5+len(q.Slots))
			expectPage(t, "P8.1", r.Page(), q)
		}
		d.setLatch(2, 20)
		r := d.readAfter(t, p, 24, 0)
		d.run(t, r, 5+len(p.Slots))
		expectPage(t, "P8.1", r.Page(), p)
	}
}

// P8.1: the words are compared as latch.Same does: every version is another one, and a lock alone is no change.
func TestReadCompares(t *testing.T) {
	d := start(t, 5)
	p := api.Page{Slots: slotsOf(2, "a"), Last: true}
	for shift := 2; shift < 64; shift++ {
		for steps := 1; steps < 7; steps++ {
			r := d.readAfter(t, p, 8, steps)
			d.setLatch(2, 8^1<<shift)
			d.goOn(t, r, 7-steps)
			d.run(t, r, 7)
			expectPage(t, "P8.1", r.Page(), p)
		}
	}
	for _, word := range words {
		for steps := range 7 {
			r := d.readAfter(t, p, word, steps)
			d.setLatch(2, word^1)
			d.run(t, r, 7-steps)
			expectPage(t, "P8.1", r.Page(), p)
		}
	}
}

// P8.2: all nodes with all pages. What is in the latch does not matter, nor whether it changes.
func TestOwn(t *testing.T) {
	for _, fanout := range []int{api.MinFanout, 5, api.MaxFanout} {
		d := start(t, fanout)
		for i, p := range allPages(fanout) {
			id, word := uint64(i%6)+1, words[i%len(words)]
			d.put(id, p)
			d.setLatch(id, uint64(i))
			o := NewOwn(d.l, id, word)
			expectZero(t, o)
			for k := range 2 + len(p.Slots) {
				d.goOn(t, o, 1)
				d.setLatch(id, uint64(i+k))
			}
			d.last(t, o)
			expectHeld(t, "P8.2", o.Held(), api.Held{ID: id, Word: word, Page: p})
		}
		d.expect(t, "P8.2")
	}
}

// P8.5: a number that is not a node has a zero page, and a node of whose slots Head says too many has as many as possible.
func TestPeek(t *testing.T) {
	for _, fanout := range []int{api.MinFanout, 5, api.MaxFanout} {
		d := start(t, fanout)
		for _, id := range noNodes {
			expectPage(t, "P8.5", Peek(d.l, d.m, id), api.Page{})
		}
		full := api.Page{Level: 2, Slots: slotsOf(fanout, ""), High: "m", Right: 5}
		for i, n := range []uint64{0, 1, 2, 3, 4, 5, 6, 31, 32, 33, 1 << 31, 1<<32 + 1, 1<<63 + 2, math.MaxUint64} {
			id := uint64(i%6) + 1
			d.put(id, full)
			d.set(d.l.Head(id), api.Cell{N: n, M: 2})
			want := full
			want.Slots = full.Slots[:min(n, uint64(fanout))]
			expectPage(t, "P8.5", Peek(d.l, d.m, id), want)
		}
		if d.m.Accesses() != 0 {
			t.Error("P8.5: Peek makes an access")
		}
		d.expect(t, "P8.5")
	}
}

// P8.5: a node is what has cells, also while the counter of nodes says less, or more.
func TestPeekUncounted(t *testing.T) {
	d := start(t, 5)
	for i, p := range pagesOf(1, 5) {
		d.set(d.l.Nodes(), api.Cell{N: uint64(i % 9)})
		id := uint64(i%6) + 1
		d.put(id, p)
		expectPage(t, "P8.5", Peek(d.l, d.m, id), p)
		expectPage(t, "P8.5", Peek(d.l, d.m, 7), api.Page{})
	}
}

// P8.5: Peek takes the cells as they are, whatever is in them, while the node is changing too.
func TestPeekAnyMemory(t *testing.T) {
	d := start(t, 4)
	d.setLatch(6, 3)
	d.put(6, api.Page{Slots: slotsOf(3, "z"), High: "a", Right: 1000})
	expectPage(t, "P8.5", Peek(d.l, d.m, 6), api.Page{Slots: slotsOf(3, "z"), High: "a", Right: 1000})
	d.set(d.l.High(6), api.Cell{K: "b", M: 1})
	expectPage(t, "P8.5", Peek(d.l, d.m, 6), api.Page{Slots: slotsOf(3, "z"), High: "b", Last: true, Right: 1000})
	d.set(d.l.High(6), api.Cell{K: "b", M: 2})
	expectPage(t, "P8.5", Peek(d.l, d.m, 6), api.Page{Slots: slotsOf(3, "z"), High: "b", Right: 1000})
	for i := range d.m.Cells() {
		d.set(i, api.Cell{N: math.MaxUint64 - uint64(i), M: math.MaxUint64 / uint64(i+1)})
	}
	for id := range uint64(9) {
		if p := Peek(d.l, d.m, id); len(p.Slots) > 4 {
			t.Errorf("P8.5: %d slots", len(p.Slots))
		}
	}
	few, _ := memory.New(3)
	expectPage(t, "P8.5", Peek(d.l, few, 6), api.Page{})
}

// Rule 3: each result is new memory, which nobody else knows.
func TestReadResultsAreNew(t *testing.T) {
	d := start(t, 5)
	p := api.Page{Slots: slotsOf(3, "a"), Last: true}
	d.put(1, p)
	d.setLatch(1, 5)
	r, o := NewRead(d.l, 1), NewOwn(d.l, 1, 5)
	d.run(t, r, 8)
	d.run(t, o, 6)
	for range 3 {
		for _, q := range []api.Page{r.Page(), o.Held().Page, Peek(d.l, d.m, 1)} {
			expectPage(t, "rule 3", q, p)
			_ = append(q.Slots, api.Slot{Key: "z"})
			q.Slots[0], q.Slots[2].Ref = api.Slot{}, 77
		}
	}
	d.expect(t, "rule 3")
}

// Rule 1: machines that read something that is not a node, or a node with too many slots, finish, and change nothing.
func TestReadNothing(t *testing.T) {
	d := start(t, 5)
	for _, id := range noNodes {
		r, o := NewRead(d.l, id), NewOwn(d.l, id, 5)
		d.run(t, r, 5)
		d.run(t, o, 3)
		expectPage(t, "P8.1", r.Page(), api.Page{})
		expectHeld(t, "P8.2", o.Held(), api.Held{ID: id, Word: 5})
	}
	d.setLatch(3, 4)
	for _, n := range []uint64{6, 1 << 32, 1 << 63, math.MaxUint64} {
		d.set(d.l.Head(3), api.Cell{N: n})
		d.run(t, NewRead(d.l, 3), 10)
		d.run(t, NewOwn(d.l, 3, 5), 8)
	}
	d.expect(t, "rule 1")
}
