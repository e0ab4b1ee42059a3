package registry

import (
	"math"
	"slices"
	"testing"

	"blinktree/api"
	"blinktree/layout"
	"blinktree/memory"
)

// machine is what P2.4 asks of Open, Release and Watermark.
type machine interface{ Step(m *memory.Memory) bool }

// database is a memory, the addresses of its snapshots, and what its cells should contain.
type database struct {
	l         layout.Layout
	m         *memory.Memory
	snapshots []int
	want      []api.Cell
}

// shape is a number of threads and of snapshots of each of them.
type shape struct{ threads, snapshots int }

// shapes returns the least and the greatest numbers, and some between them that are not the same.
func shapes() []shape {
	return []shape{
		{1, 1}, {1, 2}, {2, 1}, {2, 5}, {3, 2}, {5, 3}, {1, api.MaxSnapshots}, {api.MaxThreads, 1}, {api.MaxThreads, api.MaxSnapshots},
	}
}

// start returns a database without open snapshots. All other cells contain numbers that would be open snapshots at small timestamps.
func start(t *testing.T, s shape, published uint64) *database {
	t.Helper()
	l, m, err := layout.Start(api.Config{
		Threads: s.threads, Snapshots: s.snapshots, Nodes: 2, Chains: 3, Records: 2, Fanout: api.MinFanout, Clock: api.MaxClock,
	})
	if err != api.OK {
		t.Fatal(err)
	}
	d := &database{l: l, m: m, want: make([]api.Cell, m.Cells())}
	for i := range m.Cells() {
		d.set(i, api.Cell{N: 1 + uint64(i)%3, K: "x\x00\xff", M: 2000 + uint64(i)})
	}
	// The snapshots follow the eight cells that exist once.
	for i := range s.threads * s.snapshots {
		d.snapshots = append(d.snapshots, 8+i)
		d.set(8+i, api.Cell{})
	}
	d.setPublished(published)
	return d
}

// set changes a cell, as others do between two steps.
func (d *database) set(i int, c api.Cell) {
	d.m.Poke(i, c)
	d.want[i] = c
}

// setPublished changes the last published timestamp.
func (d *database) setPublished(n uint64) { d.set(d.l.Published(), api.Cell{N: n, K: "p", M: 7}) }

// setSnapshots changes the cells of the snapshots, in the order of their addresses.
func (d *database) setSnapshots(list []uint64) {
	for k, n := range list {
		d.set(d.snapshots[k], api.Cell{N: n})
	}
}

// openAll opens all snapshots at different timestamps.
func (d *database) openAll() {
	for k, i := range d.snapshots {
		d.set(i, api.Cell{N: 2 + uint64(k*5%7)})
	}
}

// expect reports an error if a cell is not as it should be, or the accesses are not as many.
func (d *database) expect(t *testing.T, promise string, accesses uint64) {
	t.Helper()
	for i, want := range d.want {
		if d.m.Peek(i) != want {
			t.Fatalf("%s: cell %d is %#v, want %#v", promise, i, d.m.Peek(i), want)
		}
	}
	if d.m.Accesses() != accesses {
		t.Fatalf("%s: %d accesses, want %d", promise, d.m.Accesses(), accesses)
	}
}

// step makes a step, which must be one access, and reports an error unless it is the last one or is not, as wanted.
func (d *database) step(t *testing.T, x machine, last bool) {
	t.Helper()
	accesses := d.m.Accesses()
	if finished := x.Step(d.m); finished != last {
		t.Fatalf("P2.4: it is %t that the machine has finished, want %t", finished, last)
	}
	if d.m.Accesses() != accesses+1 {
		t.Fatalf("P2.4: %d accesses in one step", d.m.Accesses()-accesses)
	}
}

// expectFinished makes three steps of a machine that has finished: they are no accesses, and change nothing.
func (d *database) expectFinished(t *testing.T, x machine) {
	t.Helper()
	accesses := d.m.Accesses()
	for range 3 {
		if !x.Step(d.m) {
			t.Fatal("P2.4: a finished machine says that it has not finished")
		}
		d.expect(t, "P2.4", accesses)
	}
}

// expectOpen reports an error if the results of an Open are not as wanted.
func expectOpen(t *testing.T, o *Open, time uint64, marks int) {
	t.Helper()
	if o.Time() != time || o.Marks() != marks {
		t.Fatalf("P18.1: Time is %d and Marks %d, want %d and %d", o.Time(), o.Marks(), time, marks)
	}
}

// times returns timestamps, the least and the greatest among them, and some that differ in their high bits only.
func times() []uint64 {
	all := []uint64{0, 1, 2, 3, 50}
	for _, shift := range []int{8, 16, 31, 32, 39} {
		all = append(all, 1<<shift-1, 1<<shift, 1<<shift+1)
	}
	return append(all, api.MaxClock-1, api.MaxClock)
}

// expectOpens opens a snapshot whose cell has the address i, and reports an error if a step does not do what it should.
func (d *database) expectOpens(t *testing.T, thread, j, i int) {
	t.Helper()
	published, accesses := d.want[d.l.Published()].N, d.m.Accesses()
	o := NewOpen(d.l, thread, j)
	expectOpen(t, o, 0, 0)
	d.expect(t, "P2.4", accesses)
	d.step(t, o, false)
	d.want[i] = api.Cell{N: 1}
	expectOpen(t, o, 0, 0)
	d.expect(t, "P18.1: the first step", accesses+1)
	d.step(t, o, false)
	expectOpen(t, o, 0, 1)
	d.expect(t, "P18.1: the second step", accesses+2)
	d.step(t, o, true)
	d.want[i] = api.Cell{N: published + 1}
	expectOpen(t, o, published, 1)
	d.expect(t, "P18.1: the third step", accesses+3)
	d.expectFinished(t, o)
	expectOpen(t, o, published, 1)
}

// P18.1: each snapshot of each thread, while no other one is open, and while all others are.
func TestOpen(t *testing.T) {
	for _, s := range shapes() {
		alone, crowded := start(t, s, 0), start(t, s, 0)
		for k, i := range alone.snapshots {
			crowded.openAll()
			for _, d := range []*database{alone, crowded} {
				d.set(i, api.Cell{})
				d.setPublished(uint64(k + 3))
				d.expectOpens(t, k/s.snapshots, k%s.snapshots, i)
				d.set(i, api.Cell{})
			}
		}
	}
}

// P18.1: all timestamps, the greatest one included.
func TestOpenAtAllTimes(t *testing.T) {
	for _, published := range times() {
		d := start(t, shape{3, 2}, published)
		d.expectOpens(t, 1, 1, d.l.Snapshot(1, 1))
	}
}

// P18.1: the timestamp is what Published contains at the second step, whatever it contains before and afterwards.
func TestOpenLoadsInItsSecondStep(t *testing.T) {
	for seed := range uint64(50) {
		d := start(t, shape{2, 2}, 90+seed)
		i := d.l.Snapshot(0, 1)
		o := NewOpen(d.l, 0, 1)
		d.setPublished(seed * 3 % 7)
		d.step(t, o, false)
		d.setPublished(seed)
		d.step(t, o, false)
		d.setPublished(seed * 5 % 11)
		d.want[i] = api.Cell{N: 1}
		d.expect(t, "P18.1", 2)
		d.step(t, o, true)
		d.want[i] = api.Cell{N: seed + 1}
		d.setPublished(seed + 40)
		d.expectFinished(t, o)
		expectOpen(t, o, seed, 1)
		d.expect(t, "P18.1", 3)
	}
}

// P18.1: a machine that has opened a snapshot does not do it again, nor does what is opened later change its results.
func TestOpenOnce(t *testing.T) {
	d := start(t, shape{2, 2}, 4)
	o := NewOpen(d.l, 1, 0)
	for k := range 3 {
		d.step(t, o, k == 2)
	}
	i := d.l.Snapshot(1, 0)
	for _, n := range []uint64{0, 1, 9} {
		d.set(i, api.Cell{N: n})
		d.setPublished(8 + n)
		d.expectFinished(t, o)
		expectOpen(t, o, 4, 1)
	}
	d.expect(t, "P18.1", 3)
}

// P18.1: each snapshot of each thread is released in one step, and no other one.
func TestRelease(t *testing.T) {
	for _, s := range shapes() {
		d := start(t, s, 6)
		for k, i := range d.snapshots {
			d.openAll()
			accesses := d.m.Accesses()
			r := NewRelease(d.l, k/s.snapshots, k%s.snapshots)
			d.expect(t, "P2.4", accesses)
			d.step(t, r, true)
			d.want[i] = api.Cell{}
			d.expect(t, "P18.1", accesses+1)
			d.expectFinished(t, r)
		}
	}
}

// P18.1: what the cell contains does not matter, nor does Published.
func TestReleaseAtAllTimes(t *testing.T) {
	for _, time := range append(times(), math.MaxUint64-1) {
		for _, published := range []uint64{0, time, time + 1, math.MaxUint64} {
			d := start(t, shape{2, 3}, published)
			i := d.l.Snapshot(1, 1)
			d.set(i, api.Cell{N: time + 1})
			r := NewRelease(d.l, 1, 1)
			d.step(t, r, true)
			d.want[i] = api.Cell{}
			d.expect(t, "P18.1", 1)
		}
	}
}

// P18.1: a machine that has released a snapshot does not release it again when it has been opened again.
func TestReleaseOnce(t *testing.T) {
	d := start(t, shape{2, 2}, 4)
	i := d.l.Snapshot(1, 1)
	d.set(i, api.Cell{N: 3})
	r := NewRelease(d.l, 1, 1)
	d.step(t, r, true)
	d.want[i] = api.Cell{}
	d.expectFinished(t, r)
	d.expectOpens(t, 1, 1, i)
	d.expectFinished(t, r)
}

// P18.1: a snapshot is opened and released again and again, and has the timestamp of the moment each time.
func TestOpenAgain(t *testing.T) {
	d := start(t, shape{1, 2}, 0)
	i := d.l.Snapshot(0, 1)
	for n := range uint64(20) {
		d.setPublished(n * n)
		d.expectOpens(t, 0, 1, i)
		d.step(t, NewRelease(d.l, 0, 1), true)
		d.want[i] = api.Cell{}
		d.expect(t, "P18.1", 4*(n+1))
	}
}

// Rule 1: snapshots that do not exist have no cell, and are neither opened nor released.
func TestNoSuchSnapshot(t *testing.T) {
	const far = 1 << 32
	d := start(t, shape{3, 2}, 6)
	d.openAll()
	for _, s := range []shape{
		{-1, 0}, {-1, 1}, {-1, 2}, {0, -1}, {1, -1}, {0, 2}, {1, 2}, {2, 2}, {3, 0}, {3, -1}, {3, 1}, {0, far}, {far, 0}, {0, 1 - far},
		{math.MinInt, 0}, {0, math.MinInt}, {math.MaxInt, 1}, {1, math.MaxInt}, {math.MaxInt, math.MaxInt}, {math.MinInt, math.MinInt},
	} {
		accesses := d.m.Accesses()
		o := NewOpen(d.l, s.threads, s.snapshots)
		for k := range 3 {
			d.step(t, o, k == 2)
		}
		expectOpen(t, o, 6, 1)
		d.expect(t, "Rule 1", accesses+3)
		d.expectFinished(t, o)
		r := NewRelease(d.l, s.threads, s.snapshots)
		d.step(t, r, true)
		d.expect(t, "Rule 1", accesses+4)
		d.expectFinished(t, r)
	}
}

// Rule 1: in a memory that no execution has, or for a snapshot that is open already, the machines finish all the same.
func TestDamaged(t *testing.T) {
	for _, n := range []uint64{0, 1, 5, math.MaxUint64} {
		for _, published := range []uint64{0, 3, math.MaxUint64 - 1, math.MaxUint64} {
			d := start(t, shape{2, 2}, published)
			d.setSnapshots([]uint64{n, n, n, n})
			o, w := NewOpen(d.l, 0, 0), NewWatermark(d.l)
			for k := range 3 {
				d.step(t, o, k == 2)
			}
			for k := range 5 {
				d.step(t, w, k == 4)
			}
			d.step(t, NewRelease(d.l, 0, 0), true)
			Live(d.l, d.m)
		}
	}
}

// P18.1, P18.2: a machine works on the memory that it is stepped with, and two memories have nothing in common.
func TestTwoDatabases(t *testing.T) {
	c, d := start(t, shape{1, 2}, 4), start(t, shape{1, 2}, 9)
	o, p := NewOpen(c.l, 0, 0), NewOpen(d.l, 0, 1)
	v, w := NewWatermark(c.l), NewWatermark(d.l)
	for k := range 3 {
		c.step(t, o, k == 2)
		d.step(t, p, k == 2)
	}
	for k := range 3 {
		c.step(t, v, k == 2)
		d.step(t, w, k == 2)
	}
	expectOpen(t, o, 4, 1)
	expectOpen(t, p, 9, 1)
	c.want[c.l.Snapshot(0, 0)] = api.Cell{N: 5}
	d.want[d.l.Snapshot(0, 1)] = api.Cell{N: 10}
	c.expect(t, "P18.1", 6)
	d.expect(t, "P18.1", 6)
	if v.Time() != 4 || w.Time() != 9 || !slices.Equal(Live(c.l, c.m), []uint64{4}) || !slices.Equal(Live(d.l, d.m), []uint64{9}) {
		t.Error("P18.2, P18.4: two databases have something in common")
	}
}
