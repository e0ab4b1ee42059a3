package read

import (
	"slices"
	"strings"
	"testing"

	"blinktree/alloc"
	"blinktree/api"
	"blinktree/batch"
	"blinktree/chain"
	"blinktree/commit"
	"blinktree/latch"
	"blinktree/layout"
	"blinktree/leaflock"
	"blinktree/memory"
	"blinktree/node"
	"blinktree/page"
)

// dice is a sequence of numbers that seem random.
type dice struct{ x uint64 }

// newDice returns the sequence of a seed.
func newDice(seed int) *dice {
	g := &dice{x: uint64(seed)}
	for range 16 {
		g.roll(1)
	}
	return g
}

// roll returns a number less than n.
func (g *dice) roll(n int) int {
	g.x = g.x*6364136223846793005 + 1442695040888963407
	return int(g.x >> 33 % uint64(n))
}

// shuffled returns the elements of a list in another order.
func shuffled[T any](g *dice, list []T) []T {
	list = slices.Clone(list)
	for i := range list {
		k := i + g.roll(len(list)-i)
		list[i], list[k] = list[k], list[i]
	}
	return list
}

// universe returns 121 keys in ascending order, the empty one included. Many of them are prefixes of others.
func universe() []string {
	list := []string{""}
	for i := 0; len(list[i]) < 4; i++ {
		for _, s := range []string{"\x00", "a", "\xff"} {
			list = append(list, list[i]+s)
		}
	}
	slices.Sort(list)
	return list
}

// batch returns a normal batch of n writes of some keys.
func (g *dice) batch(keys []string, n int) []api.Write {
	var b []api.Write
	for _, key := range shuffled(g, keys)[:n] {
		w := api.Write{Key: key}
		switch g.roll(6) {
		case 0, 1:
			w.Delete = true
		case 2:
			w.Value = strings.Repeat("v", g.roll(api.MaxValue+1))
		default:
			w.Value = string(rune('a'+g.roll(26))) + key
		}
		b = append(b, w)
	}
	slices.SortFunc(b, func(v, w api.Write) int { return strings.Compare(v.Key, w.Key) })
	return b
}

// machine is a machine of any layer.
type machine interface{ Step(m *memory.Memory) bool }

// reader is a Get or a GetAt.
type reader interface {
	machine
	Answer() api.Answer
	Marks() int
}

// patience is a number of steps that is enough for every machine of these tests if it does not have to wait.
const patience = 4000

// database is a memory, and the entries at each time up to the present.
type database struct {
	l       layout.Layout
	m       *memory.Memory
	entries [][]api.Entry
}

// small is the configuration of a small database.
func small() api.Config {
	return api.Config{Threads: 1, Snapshots: 1, Nodes: 6, Chains: 6, Records: 12, Fanout: api.MinFanout, Clock: 12}
}

// large is the configuration of a database that is large enough for all tests.
func large(fanout int) api.Config {
	return api.Config{Threads: 2, Snapshots: 2, Nodes: 150, Chains: 150, Records: 800, Fanout: fanout, Clock: 200}
}

// empty returns an empty database.
func empty(t *testing.T, c api.Config) *database {
	t.Helper()
	l, m, err := layout.Start(c)
	if err != api.OK {
		t.Fatal(err)
	}
	return &database{l: l, m: m, entries: [][]api.Entry{nil}}
}

// newDatabase returns the database of a seed: some batches have been applied, some passes of a vacuum have cut chains and removed slots,
// and the separators of some nodes have not been posted.
func newDatabase(t *testing.T, seed int) *database {
	t.Helper()
	g := newDice(seed)
	d := empty(t, large([]int{api.MinFanout, 5, 7}[seed%3]))
	some := shuffled(g, universe())[:4+g.roll(90)]
	for range g.roll(25) {
		d.apply(t, g.batch(some, g.roll(min(len(some), api.MaxBatch)+1)))
		if g.roll(12) == 0 {
			d.vacuum(t, d.floor()+uint64(g.roll(int(d.published()-d.floor())+1)))
		}
	}
	d.unpost(g)
	return d
}

// published returns the last published timestamp.
func (d *database) published() uint64 { return d.m.Peek(d.l.Published()).N }

// floor returns the floor.
func (d *database) floor() uint64 { return d.m.Peek(d.l.Floor()).N }

// set changes a cell that contains a number, and nothing else of it.
func (d *database) set(i int, n uint64) {
	c := d.m.Peek(i)
	c.N = n
	d.m.Poke(i, c)
}

// copy returns a database that does not change with this one.
func (d *database) copy() *database { return &database{d.l, d.m.Copy(), slices.Clone(d.entries)} }

// finish makes the steps of a machine.
func (d *database) finish(t *testing.T, x machine) {
	t.Helper()
	for range patience {
		if x.Step(d.m) {
			return
		}
	}
	t.Fatal("a machine does not finish")
}

// apply applies a normal batch.
func (d *database) apply(t *testing.T, b []api.Write) {
	t.Helper()
	a := commit.NewApply(d.l, b)
	d.finish(t, a)
	if a.Answer() != (api.Answer{Time: uint64(len(d.entries))}) {
		t.Fatalf("the test is wrong: %v", a.Answer())
	}
	d.entries = append(d.entries, batch.Apply(d.entries[len(d.entries)-1], b))
}

// vacuum makes a pass of a vacuum at a floor.
func (d *database) vacuum(t *testing.T, floor uint64) {
	t.Helper()
	d.sweep(floor, func(x machine) { d.finish(t, x) })
}

// sweep makes a pass of a vacuum at a floor, by machines that run finishes. Layer 19 specifies it, but is not needed here.
func (d *database) sweep(floor uint64, run func(x machine)) {
	run(alloc.NewRaise(d.l.Floor(), floor))
	k := leaflock.NewLock(d.l, "", leafLevel)
	run(k)
	for h := k.Held(); ; {
		var dead []string
		for _, s := range h.Page.Slots {
			cut := chain.NewTruncate(d.l, s.Ref, floor)
			if run(cut); cut.Dead() {
				dead = append(dead, s.Key)
			}
		}
		word := h.Word
		if len(dead) > 0 {
			w := node.NewWrite(d.l, h, page.Remove(h.Page, dead))
			run(w)
			word = w.Held().Word
		}
		run(latch.NewRelease(d.l.Latch(h.ID), word))
		if h.Page.Right == 0 {
			return
		}
		a := latch.NewAcquire(d.l.Latch(h.Page.Right))
		run(a)
		o := node.NewOwn(d.l, h.Page.Right, a.Word())
		run(o)
		h = o.Held()
	}
}

// unpost removes some separators, and sometimes a root, as if they had not been posted yet.
func (d *database) unpost(g *dice) {
	for id := uint64(1); id <= d.m.Peek(d.l.Nodes()).N; id++ {
		p := node.Peek(d.l, d.m, id)
		if p.Level == leafLevel {
			continue
		}
		left := p.Slots[:1]
		for _, s := range p.Slots[1:] {
			if g.roll(4) > 0 {
				left = append(left, s)
			}
		}
		for i, s := range left {
			d.m.Poke(d.l.Slot(id, i), api.Cell{N: s.Ref, K: s.Key})
		}
		d.m.Poke(d.l.Head(id), api.Cell{N: uint64(len(left)), M: uint64(p.Level)})
	}
	root := d.m.Peek(d.l.Root()).N
	if p := node.Peek(d.l, d.m, root); g.roll(5) == 0 && p.Level > leafLevel {
		d.set(d.l.Root(), p.Slots[0].Ref)
	}
}

// leaf returns the number of the leaf that covers a key.
func (d *database) leaf(key string) uint64 {
	id := d.m.Peek(d.l.Root()).N
	for {
		p := node.Peek(d.l, d.m, id)
		switch {
		case !p.Last && key >= p.High:
			id = p.Right
		case p.Level == leafLevel:
			return id
		default:
			id = p.Slots[0].Ref
		}
	}
}

// cells returns all cells.
func (d *database) cells() []api.Cell {
	list := make([]api.Cell, d.m.Cells())
	for i := range list {
		list[i] = d.m.Peek(i)
	}
	return list
}

// at returns the answer that the value of a key at a time is.
func (d *database) at(key string, time uint64) api.Answer {
	for _, e := range d.entries[time] {
		if e.Key == key {
			return api.Answer{Time: time, Key: key, Value: e.Value}
		}
	}
	return api.Answer{Err: api.ErrNotFound, Time: time, Key: key}
}

// wanted returns the answer of a GetAt that takes effect now.
func (d *database) wanted(key string, time uint64) api.Answer {
	switch {
	case d.published() < time:
		return api.Answer{Err: api.ErrFuture}
	case d.floor() > time:
		return api.Answer{Err: api.ErrVacuumed}
	}
	return d.at(key, time)
}

// step makes a step of a read that has not finished, which must be one access, and reports whether it has finished. There is an answer
// only then.
func (d *database) step(t *testing.T, r reader) bool {
	accesses := d.m.Accesses()
	finished := r.Step(d.m)
	if d.m.Accesses() != accesses+1 {
		t.Fatalf("P2.4: %d accesses in one step", d.m.Accesses()-accesses)
	}
	if finished != (r.Answer() != api.Answer{}) {
		t.Fatalf("P2.4: the answer is %v, and it is %t that the read has finished", r.Answer(), finished)
	}
	return finished
}

// steps makes some steps of a read, and reports whether it has finished.
func (d *database) steps(t *testing.T, r reader, n int) bool {
	t.Helper()
	for range n {
		if d.step(t, r) {
			return true
		}
	}
	return false
}

// run makes all steps of a read that it has not made yet, returns their number, and reports an error if the results are not as wanted.
func (d *database) run(t *testing.T, promise string, r reader, want api.Answer, marks int) int {
	t.Helper()
	if r.Answer() != (api.Answer{}) {
		d.expectFinished(t, promise, r, want, marks)
		return 0
	}
	for n := range patience {
		if d.step(t, r) {
			d.expectFinished(t, promise, r, want, marks)
			return n + 1
		}
	}
	t.Fatalf("%s: a read does not finish", promise)
	return 0
}

// expectFinished makes three more steps of a read that has finished, which must be no accesses, and do not change the results.
func (d *database) expectFinished(t *testing.T, promise string, r reader, want api.Answer, marks int) {
	t.Helper()
	accesses := d.m.Accesses()
	for range 3 {
		if r.Answer() != want || r.Marks() != marks {
			t.Fatalf("%s: the answer is %v with Marks %d, want %v with Marks %d", promise, r.Answer(), r.Marks(), want, marks)
		}
		if !r.Step(d.m) {
			t.Fatal("P2.4: a finished machine says that it has not finished")
		}
	}
	if d.m.Accesses() != accesses {
		t.Fatal("P2.4: a step of a finished machine makes an access")
	}
}

// unchanged calls a function that reads, and reports an error if a cell is not as before it.
func (d *database) unchanged(t *testing.T, read func()) {
	t.Helper()
	cells := d.cells()
	if read(); !slices.Equal(d.cells(), cells) {
		t.Fatal("P17.1, P17.2: a read changes a cell")
	}
}
