package insert

import (
	"math"
	"slices"
	"strconv"
	"strings"
	"testing"

	"blinktree/api"
	"blinktree/layout"
	"blinktree/memory"
	"blinktree/node"
)

// machine is what P2.4 asks of Insert, and of the machines beside it.
type machine interface{ Step(m *memory.Memory) bool }

// patience is a number of steps that is enough for every machine of these tests if it does not have to wait.
const patience = 300

// database is a memory whose cells are all different, so that none of them can be taken for another one.
type database struct {
	l layout.Layout
	m *memory.Memory
}

// start returns a database of which some nodes are in use.
func start(t *testing.T, used, nodes, fanout int) *database {
	t.Helper()
	l, m, err := layout.Start(api.Config{Threads: 2, Snapshots: 1, Nodes: nodes, Chains: 3, Records: 2, Fanout: fanout, Clock: 9})
	if err != api.OK {
		t.Fatal(err)
	}
	d := &database{l: l, m: m}
	for i := range m.Cells() {
		m.Poke(i, junk(i))
	}
	m.Poke(l.Nodes(), api.Cell{N: uint64(used)})
	return d
}

// junk returns a cell that is not like the one at any other address. Its N is not the word of a locked latch.
func junk(i int) api.Cell {
	return api.Cell{N: 4 * (100000 + uint64(i)), K: "x" + strings.Repeat("\xff", i%30), M: 200000 + uint64(i)}
}

// put stores a node, with its word, in its cells.
func (d *database) put(h api.Held) {
	p := h.Page
	d.m.Poke(d.l.Latch(h.ID), api.Cell{N: h.Word})
	d.m.Poke(d.l.Head(h.ID), api.Cell{N: uint64(len(p.Slots)), M: uint64(p.Level)})
	d.m.Poke(d.l.High(h.ID), api.Cell{K: p.High})
	if p.Last {
		d.m.Poke(d.l.High(h.ID), api.Cell{M: 1})
	}
	d.m.Poke(d.l.Right(h.ID), api.Cell{N: p.Right})
	for i, s := range p.Slots {
		d.m.Poke(d.l.Slot(h.ID, i), api.Cell{N: s.Ref, K: s.Key})
	}
}

// word returns the word in the latch of a node.
func (d *database) word(id uint64) uint64 { return d.m.Peek(d.l.Latch(id)).N }

// held returns a node as it is in its cells.
func (d *database) held(id uint64) api.Held {
	return api.Held{ID: id, Word: d.word(id), Page: node.Peek(d.l, d.m, id)}
}

// cells returns all cells.
func (d *database) cells() []api.Cell {
	list := make([]api.Cell, d.m.Cells())
	for i := range list {
		list[i] = d.m.Peek(i)
	}
	return list
}

// own reports whether a cell is one of those of a node.
func (d *database) own(cell int, id uint64) bool {
	first := d.l.Latch(id)
	return first >= 0 && first <= cell && cell < first+d.l.Config().Fanout+4
}

// expectCells reports an error if a cell is not as before, but for those of some nodes.
func (d *database) expectCells(t *testing.T, promise string, before []api.Cell, but ...uint64) {
	t.Helper()
	for i, want := range before {
		mine := func(id uint64) bool { return d.own(i, id) }
		if d.m.Peek(i) != want && !slices.ContainsFunc(but, mine) {
			t.Fatalf("%s: cell %d is %#v, want %#v", promise, i, d.m.Peek(i), want)
		}
	}
}

// expectCount reports an error if another number of nodes is in use, and says so in the cells as they were before.
func (d *database) expectCount(t *testing.T, promise string, before []api.Cell, want uint64) {
	t.Helper()
	c := d.m.Peek(d.l.Nodes())
	if c.N != want {
		t.Fatalf("%s: %d nodes are in use, want %d", promise, c.N, want)
	}
	before[d.l.Nodes()] = c
}

// expectNode reports an error if a node is not the right one, or is not in its cells.
func (d *database) expectNode(t *testing.T, promise string, h, want api.Held) {
	t.Helper()
	if !same(h, want) {
		t.Fatalf("%s: the node is %#v, want %#v", promise, h, want)
	}
	if !same(d.held(want.ID), want) {
		t.Fatalf("%s: in the cells is %#v, want %#v", promise, d.held(want.ID), want)
	}
}

// step makes a step of an Insert that has not finished, which must be one access, and reports whether it has finished with it.
func (d *database) step(t *testing.T, x *Insert) bool {
	t.Helper()
	expectNone(t, x)
	accesses := d.m.Accesses()
	finished := x.Step(d.m)
	if d.m.Accesses() != accesses+1 {
		t.Fatalf("P2.4: %d accesses in one step", d.m.Accesses()-accesses)
	}
	return finished
}

// run makes all steps of an Insert.
func (d *database) run(t *testing.T, x *Insert) {
	t.Helper()
	for steps := 0; !d.step(t, x); steps++ {
		if steps > patience {
			t.Fatal("P13.1, P13.2: an Insert does not finish")
		}
	}
	d.expectFinished(t, x)
}

// expectFinished makes three more steps of an Insert, which must be no accesses, and change neither the memory nor the results.
func (d *database) expectFinished(t *testing.T, x *Insert) {
	t.Helper()
	accesses, cells := d.m.Accesses(), d.cells()
	err, left, right, separator := x.Err(), x.Left(), x.Right(), x.Separator()
	for range 3 {
		if !x.Step(d.m) {
			t.Fatal("P2.4: a finished machine says that it has not finished")
		}
	}
	if d.m.Accesses() != accesses || x.Err() != err || !same(x.Left(), left) || !same(x.Right(), right) || x.Separator() != separator {
		t.Fatal("P2.4: a step of a finished machine has an effect")
	}
	d.expectCells(t, "P2.4: a step of a finished machine", cells)
}

// expectNone reports an error if an Insert that has not finished has a result.
func expectNone(t *testing.T, x *Insert) {
	t.Helper()
	if x.Err() != api.OK || !same(x.Left(), api.Held{}) || !same(x.Right(), api.Held{}) || x.Separator() != "" {
		t.Fatalf("P2.4: before the end, the results are %v, %#v, %#v, %q", x.Err(), x.Left(), x.Right(), x.Separator())
	}
}

// same reports whether two nodes are equal.
func same(h, g api.Held) bool {
	p, q := h.Page, g.Page
	pages := p.Level == q.Level && p.High == q.High && p.Last == q.Last && p.Right == q.Right && slices.Equal(p.Slots, q.Slots)
	return h.ID == g.ID && h.Word == g.Word && pages
}

// universe returns 121 keys in ascending order, the empty one included. Many of them are prefixes of others.
func universe() []string {
	list := []string{""}
	for i := 0; len(list[i]) < 4; i++ {
		for _, s := range []string{"\x00", "a", "\xff"} {
			list = append(list, list[i]+s)
		}
	}
	slices.Sort(list)
	return list
}

// words are words of latches that are locked and not changing, of several versions, the greatest one included.
var words = []uint64{1, 5, 4*77 + 1, 1<<40 + 1, math.MaxUint64 - 2}

// task is what an Insert is given.
type task struct {
	d    *database
	used int
	h    api.Held
	key  string
	ref  uint64
}

// begin makes the machine.
func (k *task) begin() *Insert { return NewInsert(k.d.l, k.h, k.key, k.ref) }

// String describes the task.
func (k *task) String() string {
	c := k.d.l.Config()
	return "fanout " + strconv.Itoa(c.Fanout) + ", " + strconv.Quote(k.key) + " into a page of " + strconv.Itoa(len(k.h.Page.Slots)) +
		" slots on the level " + strconv.Itoa(k.h.Page.Level)
}

// fanouts are those that are tried, the least and the greatest one included.
var fanouts = []int{api.MinFanout, 5, 6, 7, api.MaxFanout}

// newTask returns a task for a page with n slots on a level. The new key has its place before the slot with the index at. What is not
// given depends on the seed.
func newTask(t *testing.T, fanout, level, n, at, seed int) *task {
	t.Helper()
	used, all := 5+seed%3, universe()
	k := &task{d: start(t, used, used+1+seed%2, fanout), used: used, ref: 900}
	stride := (len(all) - 1) / (n + 1)
	offset := seed % (stride + 1)
	p := api.Page{Level: level, Last: seed%2 == 0}
	for i := range n + 1 {
		key := all[offset+i*stride]
		if i == at {
			k.key = key
		} else {
			p.Slots = append(p.Slots, api.Slot{Key: key, Ref: uint64(i) + 1})
		}
	}
	if !p.Last {
		p.High, p.Right = all[offset+n*stride]+"\x00", 4
	}
	k.h = api.Held{ID: 3, Word: words[seed%len(words)], Page: p}
	k.d.put(k.h)
	return k
}

// tasks calls a function with tasks of all kinds: pages with from least up to most slots less than the fanout, with the new key in every
// place.
func tasks(t *testing.T, least, most int, try func(t *testing.T, k *task)) {
	t.Helper()
	seed := 0
	for _, fanout := range fanouts {
		for level := range 3 {
			for n := max(fanout-most, min(level, 1)); n <= fanout-least; n++ {
				// The first slot of an inner node is that of its low key.
				for at := min(level, 1); at <= n; at++ {
					try(t, newTask(t, fanout, level, n, at, seed))
					seed++
				}
			}
		}
	}
}
