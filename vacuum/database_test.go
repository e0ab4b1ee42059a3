package vacuum

import (
	"slices"
	"strings"
	"testing"

	"blinktree/api"
	"blinktree/batch"
	"blinktree/chain"
	"blinktree/commit"
	"blinktree/latch"
	"blinktree/layout"
	"blinktree/memory"
	"blinktree/node"
	"blinktree/record"
)

// dice is a sequence of numbers that seem random.
type dice struct{ x uint64 }

// newDice returns the sequence of a seed.
func newDice(seed int) *dice {
	g := &dice{x: uint64(seed)}
	for range 16 {
		g.roll(1)
	}
	return g
}

// roll returns a number less than n.
func (g *dice) roll(n int) int {
	g.x = g.x*6364136223846793005 + 1442695040888963407
	return int(g.x >> 33 % uint64(n))
}

// between returns a number from a to b.
func (g *dice) between(a, b uint64) uint64 { return a + uint64(g.roll(int(b-a)+1)) }

// shuffled returns the elements of a list in another order.
func shuffled[T any](g *dice, list []T) []T {
	list = slices.Clone(list)
	for i := range list {
		k := i + g.roll(len(list)-i)
		list[i], list[k] = list[k], list[i]
	}
	return list
}

// universe returns 121 keys in ascending order, the empty one included. Many of them are prefixes of others.
func universe() []string {
	list := []string{""}
	for i := 0; len(list[i]) < 4; i++ {
		for _, s := range []string{"\x00", "a", "\xff"} {
			list = append(list, list[i]+s)
		}
	}
	slices.Sort(list)
	return list
}

// batch returns a normal batch of n writes of some keys.
func (g *dice) batch(keys []string, n int) []api.Write {
	var b []api.Write
	for _, key := range shuffled(g, keys)[:n] {
		w := api.Write{Key: key}
		switch g.roll(6) {
		case 0, 1:
			w.Delete = true
		case 2:
			w.Value = strings.Repeat("v", g.roll(api.MaxValue+1))
		default:
			w.Value = string(rune('a'+g.roll(26))) + key
		}
		b = append(b, w)
	}
	slices.SortFunc(b, func(v, w api.Write) int { return strings.Compare(v.Key, w.Key) })
	return b
}

// put returns a batch that gives values to keys, or deletes them if the value is empty.
func put(words ...string) []api.Write {
	var b []api.Write
	for i := 0; i < len(words); i += 2 {
		b = append(b, api.Write{Key: words[i], Value: words[i+1], Delete: words[i+1] == ""})
	}
	return b
}

// machine is a machine of any layer.
type machine interface{ Step(m *memory.Memory) bool }

// patience is a number of steps that is enough for every machine of these tests if it does not have to wait.
const patience = 5000

// database is a memory, and the entries at each time up to the present.
type database struct {
	l       layout.Layout
	m       *memory.Memory
	entries [][]api.Entry
}

// small is the configuration of a small database.
func small() api.Config {
	return api.Config{Threads: 1, Snapshots: 1, Nodes: 6, Chains: 8, Records: 16, Fanout: api.MinFanout, Clock: 16}
}

// large is the configuration of a database that is large enough for all tests.
func large(fanout int) api.Config {
	return api.Config{Threads: 2, Snapshots: 2, Nodes: 150, Chains: 200, Records: 900, Fanout: fanout, Clock: 200}
}

// empty returns an empty database.
func empty(t *testing.T, c api.Config) *database {
	t.Helper()
	l, m, err := layout.Start(c)
	if err != api.OK {
		t.Fatal(err)
	}
	return &database{l: l, m: m, entries: [][]api.Entry{nil}}
}

// of returns a small database after some batches.
func of(t *testing.T, batches ...[]api.Write) *database {
	t.Helper()
	d := empty(t, small())
	for _, b := range batches {
		d.apply(t, b)
	}
	return d
}

// newDatabase returns the database of a seed: some batches have been applied, some have failed and left slots with empty chains, some
// versions and keys have been removed, some separators have not been posted, and some snapshots are open.
func newDatabase(t *testing.T, seed int) *database {
	t.Helper()
	g := newDice(seed)
	d := empty(t, large([]int{api.MinFanout, 5, 7}[seed%3]))
	some := shuffled(g, universe())[:4+g.roll(60)]
	for range g.roll(25) {
		b := g.batch(some, g.roll(min(len(some), 8)+1))
		switch g.roll(12) {
		case 0:
			d.purge(g.between(d.floor(), d.published()))
			d.forget()
		case 1, 2:
			d.fail(t, b)
		default:
			d.apply(t, b)
		}
	}
	d.unpost(g)
	for range g.roll(3) {
		d.open(g.roll(2), g.roll(2), g.between(d.floor(), d.published()))
	}
	if g.roll(9) == 0 {
		// This one is being opened.
		d.open(g.roll(2), g.roll(2), 0)
	}
	return d
}

// published returns the last published timestamp.
func (d *database) published() uint64 { return d.m.Peek(d.l.Published()).N }

// floor returns the floor.
func (d *database) floor() uint64 { return d.m.Peek(d.l.Floor()).N }

// word returns the word in the latch of a node.
func (d *database) word(id uint64) uint64 { return d.m.Peek(d.l.Latch(id)).N }

// set changes a cell that contains a number, and nothing else of it.
func (d *database) set(i int, n uint64) {
	c := d.m.Peek(i)
	c.N = n
	d.m.Poke(i, c)
}

// open opens a snapshot at a time.
func (d *database) open(thread, j int, time uint64) { d.set(d.l.Snapshot(thread, j), time+1) }

// copy returns a database that does not change with this one.
func (d *database) copy() *database { return &database{d.l, d.m.Copy(), slices.Clone(d.entries)} }

// finish makes the steps of a machine.
func (d *database) finish(t *testing.T, x machine) {
	t.Helper()
	for range patience {
		if x.Step(d.m) {
			return
		}
	}
	t.Fatal("a machine does not finish")
}

// apply applies a normal batch.
func (d *database) apply(t *testing.T, b []api.Write) {
	t.Helper()
	a := commit.NewApply(d.l, b)
	d.finish(t, a)
	if a.Answer() != (api.Answer{Time: uint64(len(d.entries))}) {
		t.Fatalf("the test is wrong: %v", a.Answer())
	}
	d.publish(b)
}

// publish notes that a batch has been published.
func (d *database) publish(b []api.Write) {
	d.entries = append(d.entries, batch.Apply(d.entries[len(d.entries)-1], b))
}

// fail applies a batch for which no timestamp is left, so that nothing but slots with empty chains remains of it.
func (d *database) fail(t *testing.T, b []api.Write) {
	t.Helper()
	time := d.m.Peek(d.l.Allocated()).N
	d.set(d.l.Allocated(), d.l.Config().Clock)
	a := commit.NewApply(d.l, b)
	d.finish(t, a)
	if a.Answer().Err != api.ErrClock {
		t.Fatalf("the test is wrong: %v", a.Answer())
	}
	d.set(d.l.Allocated(), time)
}

// forget notes what is left of the entries at the times below the floor.
func (d *database) forget() {
	for time := range d.floor() {
		d.entries[time] = d.contents(time)
	}
}

// unpost removes some separators, and sometimes a root, as if they had not been posted yet.
func (d *database) unpost(g *dice) {
	for id := uint64(1); id <= d.m.Peek(d.l.Nodes()).N; id++ {
		p := node.Peek(d.l, d.m, id)
		if p.Level == leafLevel {
			continue
		}
		left := p.Slots[:1]
		for _, s := range p.Slots[1:] {
			if g.roll(4) > 0 {
				left = append(left, s)
			}
		}
		d.write(id, p.Level, left)
	}
	root := d.m.Peek(d.l.Root()).N
	if p := node.Peek(d.l, d.m, root); g.roll(5) == 0 && p.Level > leafLevel {
		d.set(d.l.Root(), p.Slots[0].Ref)
	}
}

// write puts slots into a node.
func (d *database) write(id uint64, level int, slots []api.Slot) {
	for i, s := range slots {
		d.m.Poke(d.l.Slot(id, i), api.Cell{N: s.Ref, K: s.Key})
	}
	d.m.Poke(d.l.Head(id), api.Cell{N: uint64(len(slots)), M: uint64(level)})
}

// leaves returns the numbers of the leaves from the left to the right.
func (d *database) leaves() []uint64 {
	id := d.m.Peek(d.l.Root()).N
	for p := node.Peek(d.l, d.m, id); p.Level > leafLevel; p = node.Peek(d.l, d.m, id) {
		id = p.Slots[0].Ref
	}
	var list []uint64
	for ; id != 0; id = node.Peek(d.l, d.m, id).Right {
		list = append(list, id)
	}
	return list
}

// slots returns the slots of all leaves.
func (d *database) slots() []api.Slot {
	var list []api.Slot
	for _, id := range d.leaves() {
		list = append(list, node.Peek(d.l, d.m, id).Slots...)
	}
	return list
}

// records returns the numbers of the records of a chain.
func (d *database) records(c uint64) []uint64 {
	var list []uint64
	for r := d.m.Peek(d.l.Chain(c)).N; r != 0; r = d.m.Peek(d.l.Next(r)).N {
		list = append(list, r)
	}
	return list
}

// event is something that a pass does: what it does, and to which node or record, or the new floor.
type event struct {
	what string
	n    uint64
}

// What a pass does.
const (
	raiseFloor  = "raises the floor"
	lockLeaf    = "locks a leaf"
	cutRecord   = "cuts a chain behind a record"
	changeLeaf  = "has changed a leaf"
	releaseLeaf = "releases a leaf"
)

// watermark returns the watermark.
func (d *database) watermark() uint64 {
	w := d.published()
	for thread := range d.l.Config().Threads {
		for j := range d.l.Config().Snapshots {
			if n := d.m.Peek(d.l.Snapshot(thread, j)).N; n != 0 {
				w = min(w, n-1)
			}
		}
	}
	return w
}

// purge does what a pass with a watermark has to do, by what the chapter says, without machines, and returns what that is.
func (d *database) purge(w uint64) []event {
	var list []event
	if d.floor() < w {
		d.set(d.l.Floor(), w)
		list = append(list, event{raiseFloor, w})
	}
	for _, id := range d.leaves() {
		list = append(list, event{lockLeaf, id})
		var left []api.Slot
		p := node.Peek(d.l, d.m, id)
		for _, s := range p.Slots {
			if r := d.cut(s.Ref, w); r != 0 {
				list = append(list, event{cutRecord, r})
			}
			if !record.Dead(chain.Peek(d.l, d.m, s.Ref), w) {
				left = append(left, s)
			}
		}
		if len(left) < len(p.Slots) {
			d.write(id, leafLevel, left)
			d.set(d.l.Latch(id), latch.End(d.word(id)))
			list = append(list, event{changeLeaf, id})
		}
		list = append(list, event{releaseLeaf, id})
	}
	return list
}

// cut cuts a chain at a floor, and returns the record behind which it has been cut, or 0.
func (d *database) cut(c, floor uint64) uint64 {
	for _, r := range d.records(c) {
		if stamp := d.m.Peek(d.l.Stamp(r)).N; stamp == 0 || stamp > floor {
			continue
		}
		if d.m.Peek(d.l.Next(r)).N == 0 {
			return 0
		}
		d.set(d.l.Next(r), 0)
		return r
	}
	return 0
}

// contents returns the entries that a read at a time sees.
func (d *database) contents(time uint64) []api.Entry {
	var list []api.Entry
	for _, s := range d.slots() {
		if value, ok := record.Value(chain.Peek(d.l, d.m, s.Ref), time); ok {
			list = append(list, api.Entry{Key: s.Key, Value: value})
		}
	}
	return list
}

// expectContents reports an error if the entries at a time are not what they must be.
func (d *database) expectContents(t *testing.T, time uint64) {
	want := d.entries[min(time, uint64(len(d.entries))-1)]
	if got := d.contents(time); !slices.Equal(got, want) {
		t.Fatalf("P19.3: at %d, the floor being %d, the entries are %q, want %q", time, d.floor(), got, want)
	}
}

// expectClean reports an error if something is left that a pass with a watermark removes.
func (d *database) expectClean(t *testing.T, w uint64) {
	t.Helper()
	for _, s := range d.slots() {
		list := chain.Peek(d.l, d.m, s.Ref)
		old := 0
		for _, v := range list {
			if v.Stamp <= w {
				old++
			}
		}
		if old > 1 || len(list) == 0 || len(list) == 1 && list[0].Delete && list[0].Stamp <= w {
			t.Fatalf("P19.3: after a pass at %d, the key %q has the versions %v", w, s.Key, list)
		}
	}
}

// step makes a step of a pass that has not finished, which must be one access, and reports whether it has finished. There is an answer
// only when it has taken effect, and then it stays.
func (d *database) step(t *testing.T, p *Pass) bool {
	accesses, marks, answer := d.m.Accesses(), p.Marks(), p.Answer()
	finished := p.Step(d.m)
	if d.m.Accesses() != accesses+1 {
		t.Fatalf("P2.4: %d accesses in one step", d.m.Accesses()-accesses)
	}
	switch {
	case p.Marks() < marks || p.Marks() > 1 || finished && p.Marks() == 0:
		t.Fatalf("P19.1: Marks is %d after %d", p.Marks(), marks)
	case p.Marks() == 0 && p.Answer() != (api.Answer{}) || marks == 1 && p.Answer() != answer:
		t.Fatalf("P19.1: with Marks %d, the answer is %v after %v", p.Marks(), p.Answer(), answer)
	case p.Marks() > marks && (p.Answer() != (api.Answer{Time: p.Answer().Time}) || p.Answer().Time > d.floor()):
		t.Fatalf("P19.1: the pass takes effect with the answer %v while the floor is %d", p.Answer(), d.floor())
	}
	return finished
}

// steps makes some steps of a pass, and reports whether it has finished.
func (d *database) steps(t *testing.T, p *Pass, n int) bool {
	for range n {
		if d.step(t, p) {
			return true
		}
	}
	return false
}

// run makes all steps of a pass that it has not made yet, and returns their number. The answer must be a watermark.
func (d *database) run(t *testing.T, p *Pass, w uint64) int {
	t.Helper()
	for n := range patience {
		if d.step(t, p) {
			d.expectFinished(t, p, w)
			return n + 1
		}
	}
	t.Fatal("P19.2: a pass does not finish")
	return 0
}

// expectFinished makes three more steps of a pass that has finished, which must be no accesses, and do not change the results.
func (d *database) expectFinished(t *testing.T, p *Pass, w uint64) {
	t.Helper()
	accesses := d.m.Accesses()
	for range 3 {
		if p.Answer() != (api.Answer{Time: w}) || p.Marks() != 1 {
			t.Fatalf("P19.1: the answer is %v with Marks %d, want the time %d with 1", p.Answer(), p.Marks(), w)
		}
		if !p.Step(d.m) {
			t.Fatal("P2.4: a finished machine says that it has not finished")
		}
	}
	if d.m.Accesses() != accesses {
		t.Fatal("P2.4: a step of a finished machine makes an access")
	}
}
