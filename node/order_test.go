package node

import (
	"strconv"
	"testing"

	"blinktree/api"
	"blinktree/latch"
	"blinktree/layout"
	"blinktree/memory"
	"blinktree/page"
)

// writer is a machine that locks node 1, reads it, changes it several times, and releases it. It does so in several rounds.
type writer struct {
	l       layout.Layout
	changes [][]func(p api.Page) api.Page
	now     machine
	held    api.Held
	change  int
}

// next makes the next part of what the writer does, or nil if there is none.
func (w *writer) next() {
	switch x := w.now.(type) {
	case *latch.Acquire:
		w.now = NewOwn(w.l, 1, x.Word())
	case *Own:
		w.held = x.Held()
		w.write()
	case *Write:
		w.held = x.Held()
		w.write()
	default:
		w.now = nil
		if len(w.changes) > 0 {
			w.now = latch.NewAcquire(w.l.Latch(1))
		}
	}
}

// write begins the next change of this round, or releases the node.
func (w *writer) write() {
	if w.change == len(w.changes[0]) {
		w.changes, w.change = w.changes[1:], 0
		w.now = latch.NewRelease(w.l.Latch(1), w.held.Word)
		return
	}
	w.now = NewWrite(w.l, w.held, w.changes[0][w.change](w.held.Page))
	w.change++
}

func (w *writer) Step(m *memory.Memory) bool {
	if w.now != nil && w.now.Step(m) {
		w.next()
	}
	return w.now == nil
}

// reader is a machine that reads node 1, and what the pages of the node were since its first step while nobody changed it.
type reader struct {
	read     *Read
	begun    bool
	finished bool
	stable   []api.Page
}

// match is a memory, and writers and readers of its node 1.
type match struct {
	l       layout.Layout
	m       *memory.Memory
	writers []*writer
	readers []*reader
}

// newMatch returns a match in which node 1 has a page. Each of the writers makes its changes.
func newMatch(t *testing.T, p api.Page, readers int, changes ...[][]func(p api.Page) api.Page) *match {
	t.Helper()
	l, m, err := layout.Start(api.Config{Threads: 1, Snapshots: 1, Nodes: 2, Chains: 1, Records: 1, Fanout: 8, Clock: 1})
	if err != api.OK {
		t.Fatal(err)
	}
	for i, c := range cellsOf(l, 1, p) {
		m.Poke(i, c)
	}
	g := &match{l: l, m: m}
	for _, c := range changes {
		w := &writer{l: l, changes: c}
		w.next()
		g.writers = append(g.writers, w)
	}
	for range readers {
		g.readers = append(g.readers, &reader{read: NewRead(l, 1)})
	}
	return g
}

// note tells the readers which page the node has now, unless somebody is changing it.
func (g *match) note() {
	if latch.Changing(g.m.Peek(g.l.Latch(1)).N) {
		return
	}
	for _, r := range g.readers {
		if r.begun && !r.finished {
			r.stable = append(r.stable, Peek(g.l, g.m, 1))
		}
	}
}

// pick makes a step of a writer or, behind them, of a reader, and returns what has been broken.
func (g *match) pick(k int) string {
	accesses, finished, broken := g.m.Accesses(), false, ""
	if k < len(g.writers) {
		finished = g.writers[k].now == nil
		g.writers[k].Step(g.m)
		g.note()
	} else {
		r := g.readers[k-len(g.writers)]
		finished = r.finished
		broken = g.pickReader(r)
	}
	if made := g.m.Accesses() - accesses; finished && made != 0 || !finished && made != 1 {
		return "P2.4: a step does not make one access"
	}
	return broken
}

// pickReader makes a step of a reader, and returns what has been broken.
func (g *match) pickReader(r *reader) string {
	if r.finished {
		r.read.Step(g.m)
		return ""
	}
	if !r.begun {
		r.begun = true
		g.note()
	}
	r.finished = r.read.Step(g.m)
	if !r.finished {
		return ""
	}
	if latch.Changing(g.m.Peek(g.l.Latch(1)).N) {
		return "P8.3: Read does not wait while the node is changing"
	}
	for _, p := range r.stable {
		if same(p, r.read.Page()) {
			return ""
		}
	}
	return "P8.1: the node never had the page that has been read"
}

// machines returns the number of machines.
func (g *match) machines() int { return len(g.writers) + len(g.readers) }

// unfinished returns what is broken if the machines do not finish, or nothing if they have.
func (g *match) unfinished() string {
	for _, w := range g.writers {
		if w.now != nil {
			return "P8.3: a writer does not finish"
		}
	}
	for _, r := range g.readers {
		if !r.finished {
			return "P8.1: a reader does not finish"
		}
	}
	return ""
}

// finish picks all machines in turn until they have finished, and once more, and returns what has been broken.
func (g *match) finish() string {
	for round := 0; g.unfinished() != ""; round++ {
		if round > 50*(g.machines()+2) {
			return g.unfinished()
		}
		if broken := g.round(); broken != "" {
			return broken
		}
	}
	return g.round()
}

// round picks each machine once.
func (g *match) round() string {
	for k := range g.machines() {
		if broken := g.pick(k); broken != "" {
			return broken
		}
	}
	return ""
}

// to returns a change to a page.
func to(p api.Page) func(api.Page) api.Page { return func(api.Page) api.Page { return p } }

// inserting returns a change that adds a key.
func inserting(key string) func(api.Page) api.Page {
	return func(p api.Page) api.Page {
		q, _ := page.Insert(p, key, uint64(len(key)))
		return q
	}
}

// removing returns a change that removes a key.
func removing(key string) func(api.Page) api.Page {
	return func(p api.Page) api.Page { return page.Remove(p, []string{key}) }
}

// leaf returns a leaf with some keys, which ends before the high key, or is the last one if that is empty.
func leaf(high string, keys ...string) api.Page {
	p := api.Page{High: high, Last: high == ""}
	if !p.Last {
		p.Right = 2
	}
	for i, k := range keys {
		p.Slots = append(p.Slots, api.Slot{Key: k, Ref: uint64(i) + 1})
	}
	return p
}

// allOrders plays a reader and a writer in all orders of so many picks, after the writer alone has made some, followed by
// fair ones.
func allOrders(t *testing.T, first api.Page, alone, picks int, changes ...[]func(p api.Page) api.Page) {
	t.Helper()
	for order := range 1 << picks {
		g := newMatch(t, first, 1, changes)
		for range alone {
			g.pick(0)
		}
		for n := range picks {
			if broken := g.pick(order >> n & 1); broken != "" {
				t.Fatalf("%s: order %b", broken, order)
			}
		}
		if broken := g.finish(); broken != "" {
			t.Fatalf("%s: order %b", broken, order)
		}
	}
}

// P8.1, P8.3: a writer that changes the node twice, while it has it locked or in two rounds, and a reader among its accesses,
// in all orders: the page that is read is never a mixture.
func TestReaderInAllOrders(t *testing.T) {
	a, b, c := leaf("", "a"), leaf("m", "b"), leaf("k", "c", "d")
	allOrders(t, a, 6, 15, []func(api.Page) api.Page{to(b), to(c)})
	allOrders(t, c, 7, 15, []func(api.Page) api.Page{to(a), to(leaf(""))})
	allOrders(t, leaf(""), 5, 15, []func(api.Page) api.Page{to(a)}, []func(api.Page) api.Page{to(leaf(""))})
}

// P8.1, P8.3: from a page to another one and back to the first: a reader does not take parts of both for a page.
func TestReaderWhileAChangeIsUndone(t *testing.T) {
	a, b := leaf("m", "a", "b"), leaf("", "c", "d")
	allOrders(t, a, 7, 16, []func(api.Page) api.Page{to(b), to(a)})
	allOrders(t, b, 7, 16, []func(api.Page) api.Page{to(a), to(b), to(a)})
}

// next returns the next state of a sequence of numbers that seem random.
func next(x uint64) uint64 { return x*6364136223846793005 + 1442695040888963407 }

// P8.1 to P8.3: writers that insert and remove keys, and readers, in many orders, in which some are picked far more often than
// others. No change is lost.
func TestManyWritersAndReaders(t *testing.T) {
	for seed := range uint64(300) {
		var changes [][][]func(api.Page) api.Page
		for k := range 4 {
			key := strconv.Itoa(k)
			changes = append(changes, [][]func(api.Page) api.Page{
				{inserting(key)}, {inserting(key + "x"), removing(key)}, {}, {inserting(key), removing(key + "x")},
			})
		}
		g := newMatch(t, leaf("9"), 5, changes...)
		x := seed
		for range seed % 250 {
			x = next(x)
			if broken := g.pick(int(max(x>>33%9, x>>41%9))); broken != "" {
				t.Fatalf("%s: seed %d", broken, seed)
			}
		}
		if broken := g.finish(); broken != "" {
			t.Fatalf("%s: seed %d", broken, seed)
		}
		want := leaf("9", "0", "1", "2", "3")
		for i := range want.Slots {
			want.Slots[i].Ref = 1
		}
		expectPage(t, "P8.2, P8.3", Peek(g.l, g.m, 1), want)
		if !page.Check(want, 8) || g.m.Peek(g.l.Latch(1)) != (api.Cell{N: 4 * 4 * 5}) {
			t.Errorf("P8.3: the latch is %v", g.m.Peek(g.l.Latch(1)))
		}
	}
}

// P8.1: several readers do not disturb each other, nor a writer that stops in the midst of its change.
func TestWriterThatStops(t *testing.T) {
	for steps := range 8 {
		g := newMatch(t, leaf("m", "a"), 3, [][]func(api.Page) api.Page{{to(leaf("", "b", "c"))}})
		// Its first six picks lock the node and read it, and seven more change it.
		for range 6 + steps {
			g.pick(0)
		}
		for n := range 60 {
			if broken := g.pick(1 + n%3); broken != "" {
				t.Fatalf("%s: after %d steps", broken, steps)
			}
		}
		changing := steps >= 1 && steps < 7
		for _, r := range g.readers {
			if r.finished == changing {
				t.Errorf("P8.1, P8.3: after %d steps of a change, a reader finishes: %v", steps, r.finished)
			}
		}
		if broken := g.finish(); broken != "" {
			t.Fatal(broken)
		}
	}
}
