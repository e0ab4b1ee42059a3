package cursor

import (
	"slices"
	"strings"
	"testing"

	"blinktree/api"
	"blinktree/batch"
	"blinktree/commit"
	"blinktree/latch"
	"blinktree/layout"
	"blinktree/memory"
	"blinktree/node"
	"blinktree/vacuum"
)

// dice is a sequence of numbers that seem random.
type dice struct{ x uint64 }

// newDice returns the sequence of a seed.
func newDice(seed int) *dice {
	g := &dice{x: uint64(seed)}
	for range 16 {
		g.roll(1)
	}
	return g
}

// roll returns a number less than n.
func (g *dice) roll(n int) int {
	g.x = g.x*6364136223846793005 + 1442695040888963407
	return int(g.x >> 33 % uint64(n))
}

// between returns a number from a to b.
func (g *dice) between(a, b uint64) uint64 { return a + uint64(g.roll(int(b-a)+1)) }

// oneOf returns an element of a list.
func oneOf[T any](g *dice, list []T) T { return list[g.roll(len(list))] }

// shuffled returns the elements of a list in another order.
func shuffled[T any](g *dice, list []T) []T {
	list = slices.Clone(list)
	for i := range list {
		k := i + g.roll(len(list)-i)
		list[i], list[k] = list[k], list[i]
	}
	return list
}

// universe returns 121 keys in ascending order, the empty one included. Many of them are prefixes of others.
func universe() []string {
	list := []string{""}
	for i := 0; len(list[i]) < 4; i++ {
		for _, s := range []string{"\x00", "a", "\xff"} {
			list = append(list, list[i]+s)
		}
	}
	slices.Sort(list)
	return list
}

// longest returns the greatest key.
func longest() string { return strings.Repeat("\xff", api.MaxKey) }

// keysToTry returns all keys of the universe and some others.
func keysToTry() []string {
	return append(universe(), "b", "aab", "\x00b\x00", "\xff\xff\xff\xff\xff", strings.Repeat("a", api.MaxKey), longest())
}

// batch returns a normal batch of n writes of some keys.
func (g *dice) batch(keys []string, n int) []api.Write {
	var b []api.Write
	for _, key := range shuffled(g, keys)[:n] {
		w := api.Write{Key: key}
		switch g.roll(6) {
		case 0, 1:
			w.Delete = true
		case 2:
			w.Value = strings.Repeat("v", g.roll(api.MaxValue+1))
		default:
			w.Value = string(rune('a'+g.roll(26))) + key
		}
		b = append(b, w)
	}
	slices.SortFunc(b, func(v, w api.Write) int { return strings.Compare(v.Key, w.Key) })
	return b
}

// put returns a batch that gives values to keys, or deletes them if the value is empty.
func put(words ...string) []api.Write {
	var b []api.Write
	for i := 0; i < len(words); i += 2 {
		b = append(b, api.Write{Key: words[i], Value: words[i+1], Delete: words[i+1] == ""})
	}
	return b
}

// machine is a machine of any layer.
type machine interface{ Step(m *memory.Memory) bool }

// patience is a number of steps that is enough for every machine of these tests if it does not have to wait.
const patience = 20000

// database is a memory, and the entries at each time up to the present.
type database struct {
	l       layout.Layout
	m       *memory.Memory
	entries [][]api.Entry
}

// small is the configuration of a small database.
func small() api.Config {
	return api.Config{Threads: 1, Snapshots: 1, Nodes: 8, Chains: 12, Records: 24, Fanout: api.MinFanout, Clock: 16}
}

// large is the configuration of a database that is large enough for all tests.
func large(fanout int) api.Config {
	return api.Config{Threads: 3, Snapshots: 2, Nodes: 200, Chains: 400, Records: 1600, Fanout: fanout, Clock: 300}
}

// empty returns an empty database.
func empty(t *testing.T, c api.Config) *database {
	t.Helper()
	l, m, err := layout.Start(c)
	if err != api.OK {
		t.Fatal(err)
	}
	return &database{l: l, m: m, entries: [][]api.Entry{nil}}
}

// of returns a small database after some batches.
func of(t *testing.T, batches ...[]api.Write) *database {
	t.Helper()
	d := empty(t, small())
	for _, b := range batches {
		d.apply(t, b)
	}
	return d
}

// newDatabase returns the database of a seed: some batches have been applied, some have failed and left slots with empty chains, some
// versions and keys have been removed, and some separators have not been posted.
func newDatabase(t *testing.T, seed int) *database {
	t.Helper()
	g := newDice(seed)
	d := empty(t, large([]int{api.MinFanout, 5, 7}[seed%3]))
	some := shuffled(g, universe())[:2+g.roll(90)]
	for range g.roll(25) {
		b := g.batch(some, g.roll(min(len(some), api.MaxBatch)+1))
		switch g.roll(12) {
		case 0:
			d.vacuum(t, g.between(d.floor(), d.published()))
		case 1:
			d.fail(t, b)
		default:
			d.apply(t, b)
		}
	}
	if g.roll(3) == 0 {
		d.thin(t, g)
	}
	d.unpost(g)
	return d
}

// thin deletes most keys, so that many leaves have no slot that counts, and sometimes removes their slots.
func (d *database) thin(t *testing.T, g *dice) {
	t.Helper()
	for _, e := range d.at(d.published()) {
		if g.roll(8) > 0 {
			d.apply(t, put(e.Key, ""))
		}
	}
	if g.roll(2) == 0 {
		d.vacuum(t, g.between(d.floor(), d.published()))
	}
}

// published returns the last published timestamp.
func (d *database) published() uint64 { return d.m.Peek(d.l.Published()).N }

// floor returns the floor.
func (d *database) floor() uint64 { return d.m.Peek(d.l.Floor()).N }

// at returns the entries at a time.
func (d *database) at(time uint64) []api.Entry { return d.entries[min(time, uint64(len(d.entries))-1)] }

// set changes a cell that contains a number, and nothing else of it.
func (d *database) set(i int, n uint64) {
	c := d.m.Peek(i)
	c.N = n
	d.m.Poke(i, c)
}

// open opens a snapshot at a time.
func (d *database) open(thread, j int, time uint64) { d.set(d.l.Snapshot(thread, j), time+1) }

// close releases a snapshot.
func (d *database) close(thread, j int) { d.set(d.l.Snapshot(thread, j), 0) }

// copy returns a database that does not change with this one.
func (d *database) copy() *database { return &database{d.l, d.m.Copy(), slices.Clone(d.entries)} }

// cells returns all cells.
func (d *database) cells() []api.Cell {
	list := make([]api.Cell, d.m.Cells())
	for i := range list {
		list[i] = d.m.Peek(i)
	}
	return list
}

// finish makes the steps of a machine.
func (d *database) finish(t *testing.T, x machine) {
	t.Helper()
	for range patience {
		if x.Step(d.m) {
			return
		}
	}
	t.Fatal("a machine does not finish")
}

// apply applies a normal batch.
func (d *database) apply(t *testing.T, b []api.Write) {
	t.Helper()
	a := commit.NewApply(d.l, b)
	d.finish(t, a)
	if a.Answer() != (api.Answer{Time: uint64(len(d.entries))}) {
		t.Fatalf("the test is wrong: %v", a.Answer())
	}
	d.publish(b)
}

// publish notes that a batch has been published.
func (d *database) publish(b []api.Write) {
	d.entries = append(d.entries, batch.Apply(d.entries[len(d.entries)-1], b))
}

// fail applies a batch for which no timestamp is left, so that nothing but slots with empty chains remains of it.
func (d *database) fail(t *testing.T, b []api.Write) {
	t.Helper()
	time := d.m.Peek(d.l.Allocated()).N
	d.set(d.l.Allocated(), d.l.Config().Clock)
	a := commit.NewApply(d.l, b)
	d.finish(t, a)
	if a.Answer().Err != api.ErrClock {
		t.Fatalf("the test is wrong: %v", a.Answer())
	}
	d.set(d.l.Allocated(), time)
}

// vacuum makes a vacuum pass while a snapshot at a time is open.
func (d *database) vacuum(t *testing.T, time uint64) {
	t.Helper()
	last := d.l.Config().Threads - 1
	d.open(last, 0, time)
	d.finish(t, vacuum.NewPass(d.l))
	d.close(last, 0)
}

// isLeaf reports whether a page is that of a leaf.
func isLeaf(p api.Page) bool { return p.Level == leafLevel }

// unpost removes some separators, and sometimes a root, as if they had not been posted yet.
func (d *database) unpost(g *dice) {
	for id := uint64(1); id <= d.m.Peek(d.l.Nodes()).N; id++ {
		p := node.Peek(d.l, d.m, id)
		if isLeaf(p) {
			continue
		}
		left := p.Slots[:1]
		for _, s := range p.Slots[1:] {
			if g.roll(4) > 0 {
				left = append(left, s)
			}
		}
		d.write(id, p.Level, left)
	}
	root := d.m.Peek(d.l.Root()).N
	if p := node.Peek(d.l, d.m, root); g.roll(5) == 0 && !isLeaf(p) {
		d.set(d.l.Root(), p.Slots[0].Ref)
	}
}

// write puts slots into a node, which gets the next version.
func (d *database) write(id uint64, level int, slots []api.Slot) {
	d.set(d.l.Latch(id), latch.End(d.m.Peek(d.l.Latch(id)).N))
	for i, s := range slots {
		d.m.Poke(d.l.Slot(id, i), api.Cell{N: s.Ref, K: s.Key})
	}
	d.m.Poke(d.l.Head(id), api.Cell{N: uint64(len(slots)), M: uint64(level)})
}

// leaves returns the numbers of the leaves from the left to the right.
func (d *database) leaves() []uint64 {
	id := d.m.Peek(d.l.Root()).N
	for p := node.Peek(d.l, d.m, id); !isLeaf(p); p = node.Peek(d.l, d.m, id) {
		id = p.Slots[0].Ref
	}
	var list []uint64
	for ; id != noNode; id = node.Peek(d.l, d.m, id).Right {
		list = append(list, id)
	}
	return list
}
