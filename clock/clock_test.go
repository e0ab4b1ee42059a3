package clock

import (
	"math"
	"testing"

	"blinktree/alloc"
	"blinktree/api"
	"blinktree/layout"
	"blinktree/memory"
)

// machine is what P2.4 asks of Allocate, Publish and Now.
type machine interface{ Step(m *memory.Memory) bool }

// database is a memory whose two cells of the clock the tests know, and whose other cells must stay as they are.
type database struct {
	l     layout.Layout
	m     *memory.Memory
	first *memory.Memory
}

// start returns a database with the given timestamps, of which clock is the greatest. Its sizes are different numbers, and
// so are its other cells, so that none of them can be taken for another one.
func start(t *testing.T, clock, allocated, published uint64) *database {
	t.Helper()
	l, m, err := layout.Start(api.Config{Threads: 2, Snapshots: 3, Nodes: 6, Chains: 7, Records: 8, Fanout: 5, Clock: clock})
	if err != api.OK {
		t.Fatal(err)
	}
	for i := range m.Cells() {
		m.Poke(i, api.Cell{N: 1000 + uint64(i), K: "x\x00\xff", M: 2000 + uint64(i)})
	}
	m.Poke(l.Allocated(), api.Cell{N: allocated})
	m.Poke(l.Published(), api.Cell{N: published})
	return &database{l: l, m: m, first: m.Copy()}
}

// setAllocated and setPublished do what other machines do between two steps.
func (d *database) setAllocated(n uint64) { d.m.Poke(d.l.Allocated(), api.Cell{N: n}) }
func (d *database) setPublished(n uint64) { d.m.Poke(d.l.Published(), api.Cell{N: n}) }

// allocated and published return the timestamps.
func (d *database) allocated() uint64 { return d.m.Peek(d.l.Allocated()).N }
func (d *database) published() uint64 { return d.m.Peek(d.l.Published()).N }

// expect reports an error if the cells of the clock are not as given, another cell has changed, or the accesses are not as
// many.
func (d *database) expect(t *testing.T, promise string, accesses, allocated, published uint64) {
	t.Helper()
	for i := range d.m.Cells() {
		want := d.first.Peek(i)
		switch i {
		case d.l.Allocated():
			want.N = allocated
		case d.l.Published():
			want.N = published
		}
		if d.m.Peek(i) != want {
			t.Errorf("%s: cell %d is %#v, want %#v", promise, i, d.m.Peek(i), want)
		}
	}
	if d.m.Accesses() != accesses {
		t.Errorf("%s: %d accesses, want %d", promise, d.m.Accesses(), accesses)
	}
}

// goOn makes steps of a machine that must not finish: each of them is one access that leaves the memory as it is.
func (d *database) goOn(t *testing.T, x machine, steps int) {
	t.Helper()
	accesses, allocated, published := d.m.Accesses(), d.allocated(), d.published()
	for range steps {
		if x.Step(d.m) {
			t.Fatal("P2.4: finished too early")
		}
		accesses++
		d.expect(t, "P2.4", accesses, allocated, published)
	}
}

// last makes the last step of a machine, which is one access, and then three more, which are none and change nothing.
func (d *database) last(t *testing.T, x machine) {
	t.Helper()
	accesses := d.m.Accesses()
	if !x.Step(d.m) {
		t.Fatal("P2.4: not finished")
	}
	d.expectFinished(t, x, accesses+1)
}

// expectFinished makes three steps of a machine that has finished, after so many accesses: they are none and change nothing.
func (d *database) expectFinished(t *testing.T, x machine, accesses uint64) {
	t.Helper()
	allocated, published := d.allocated(), d.published()
	for range 3 {
		if !x.Step(d.m) {
			t.Error("P2.4: a finished machine says that it has not finished")
		}
		d.expect(t, "P2.4", accesses, allocated, published)
	}
}

// expectTime reports an error if the machine's result is not the timestamp, or not that there is none if it is 0.
func expectTime(t *testing.T, x *Allocate, want uint64) {
	t.Helper()
	if n, ok := x.Time(); n != want || ok != (want != 0) {
		t.Errorf("P6.1: Time is %d, %v, want %d", n, ok, want)
	}
}

// P6.1: one after the other, with every small limit: 1, 2, 3 and so on up to the limit, and then none, however often.
func TestAllocate(t *testing.T) {
	for clock := uint64(1); clock <= 9; clock++ {
		d := start(t, clock, 0, 0)
		for n := uint64(1); n <= clock; n++ {
			x := NewAllocate(d.l)
			expectTime(t, x, 0)
			d.expect(t, "P2.4", 2*n-2, n-1, 0)
			d.goOn(t, x, 1)
			expectTime(t, x, 0)
			d.last(t, x)
			expectTime(t, x, n)
			d.expect(t, "P6.1", 2*n, n, 0)
		}
		for k := range uint64(3) {
			x := NewAllocate(d.l)
			d.last(t, x)
			expectTime(t, x, 0)
			d.expect(t, "P6.1", 2*clock+k+1, clock, 0)
		}
	}
}

// P6.1: great limits, with counters below them, at them, and above them.
func TestAllocateAtLimits(t *testing.T) {
	for _, clock := range []uint64{1, 2, 255, 1<<16 + 1, 1 << 31, 1 << 32, 1<<32 + 3, api.MaxClock - 1, api.MaxClock} {
		for _, allocated := range []uint64{0, clock / 2, clock - 1, clock, clock + 1, clock + 1<<32, math.MaxUint64} {
			d := start(t, clock, allocated, 0)
			x := NewAllocate(d.l)
			if allocated >= clock {
				d.last(t, x)
				expectTime(t, x, 0)
				d.expect(t, "P6.1", 1, allocated, 0)
				continue
			}
			d.goOn(t, x, 1)
			d.last(t, x)
			expectTime(t, x, allocated+1)
			d.expect(t, "P6.1", 2, allocated+1, 0)
		}
	}
}

// P6.1: another machine changes the cell between the two accesses: the timestamp is the next one by then, or none is left.
func TestAllocateIsOvertaken(t *testing.T) {
	for now := uint64(5); now <= 9; now++ {
		d := start(t, 7, 4, 0)
		x := NewAllocate(d.l)
		d.goOn(t, x, 1)
		d.setAllocated(now)
		d.goOn(t, x, 1)
		if now >= 7 {
			d.last(t, x)
			expectTime(t, x, 0)
			d.expect(t, "P6.1", 3, now, 0)
			continue
		}
		d.goOn(t, x, 1)
		expectTime(t, x, 0)
		d.last(t, x)
		expectTime(t, x, now+1)
		d.expect(t, "P6.1", 4, now+1, 0)
	}
}

// P6.1: it does what Take does on the same cell with the same limit, step by step, while others change the cell.
func TestAllocateIsTake(t *testing.T) {
	for seed := range uint64(300) {
		d := start(t, 9, seed%11, 0)
		c := &database{l: d.l, m: d.m.Copy(), first: d.first}
		x, y := NewAllocate(d.l), alloc.NewTake(c.l.Allocated(), 9)
		state := seed
		for range 12 {
			if x.Step(d.m) != y.Step(c.m) {
				t.Fatalf("P6.1: seed %d: finished at another step", seed)
			}
			d.expect(t, "P6.1", c.m.Accesses(), c.allocated(), 0)
			n, ok := x.Time()
			if want, is := y.Number(); n != want || ok != is {
				t.Fatalf("P6.1: seed %d: %d, %v, want %d, %v", seed, n, ok, want, is)
			}
			if state = next(state); state>>33%3 == 0 {
				d.setAllocated(state >> 40 % 11)
				c.setAllocated(state >> 40 % 11)
			}
		}
	}
}

// P6.1: timestamps are allocated whatever has been published, and stay what they are, whatever happens afterwards.
func TestAllocatedTimeStays(t *testing.T) {
	for _, published := range []uint64{0, 4, 9, math.MaxUint64} {
		d := start(t, 5, 4, published)
		x, y := NewAllocate(d.l), NewAllocate(d.l)
		d.goOn(t, x, 1)
		d.last(t, x)
		d.last(t, y)
		d.setAllocated(0)
		d.expectFinished(t, x, 3)
		d.expectFinished(t, y, 3)
		expectTime(t, x, 5)
		expectTime(t, y, 0)
		d.expect(t, "P6.1", 3, 0, published)
	}
}

// times returns timestamps, the least and the greatest among them, and some that differ in their high bits only.
func times() []uint64 {
	all := []uint64{1, 2, 3, 4, 50}
	for _, shift := range []int{8, 16, 31, 32, 39} {
		all = append(all, 1<<shift-1, 1<<shift, 1<<shift+1)
	}
	return append(all, api.MaxClock-1, api.MaxClock)
}

// P6.2: the turn of the timestamp has come: the last step stores it, and no step before changes anything.
func TestPublish(t *testing.T) {
	for _, time := range times() {
		d := start(t, api.MaxClock, api.MaxClock, time-1)
		x := NewPublish(d.l, time)
		d.expect(t, "P2.4", 0, api.MaxClock, time-1)
		d.goOn(t, x, 1)
		d.last(t, x)
		d.expect(t, "P6.2", 2, api.MaxClock, time)
	}
}

// P6.2: it waits while the cell contains anything but the timestamp before, however near, and changes nothing meanwhile.
func TestPublishWaits(t *testing.T) {
	all := append(times(), 0, math.MaxUint64)
	for _, time := range times() {
		for _, published := range append(all, time-3, time-2, time, time+1, time-1+1<<32, time-1+1<<63) {
			if published == time-1 {
				continue
			}
			d := start(t, api.MaxClock, api.MaxClock, published)
			d.goOn(t, NewPublish(d.l, time), 5)
			d.expect(t, "P6.2", 5, api.MaxClock, published)
		}
	}
}

// P6.2: it goes on waiting until the timestamp before has been published, and then finishes.
func TestPublishWaitsLong(t *testing.T) {
	d := start(t, 50, 50, 0)
	x := NewPublish(d.l, 41)
	for n := range uint64(40) {
		d.setPublished(n)
		d.goOn(t, x, 1+int(n)%7)
	}
	d.setPublished(40)
	accesses := d.m.Accesses()
	d.goOn(t, x, 1)
	d.last(t, x)
	d.expect(t, "P6.2", accesses+2, 50, 41)
}

// P6.2: it does not look at the cell Allocated.
func TestPublishWhateverIsAllocated(t *testing.T) {
	for _, allocated := range []uint64{0, 6, 7, 8, math.MaxUint64} {
		d := start(t, 9, allocated, 6)
		x := NewPublish(d.l, 7)
		d.goOn(t, x, 1)
		d.setAllocated(allocated + 1)
		d.last(t, x)
		d.expect(t, "P6.2", 2, allocated+1, 7)
	}
}

// P6.2: a timestamp is published once: a machine that has finished does not do it again, even if it were its turn again.
func TestPublishOnce(t *testing.T) {
	d := start(t, 9, 9, 3)
	x := NewPublish(d.l, 4)
	d.goOn(t, x, 1)
	d.last(t, x)
	for _, now := range []uint64{3, 5, 0} {
		d.setPublished(now)
		d.expectFinished(t, x, 2)
	}
	d.expect(t, "P6.2", 2, 9, 0)
}

// P6.2: a machine for a timestamp that cannot have been allocated waits for ever; 0 stands for the empty database.
func TestPublishOfNoTimestamp(t *testing.T) {
	for _, time := range []uint64{0, 10, math.MaxUint64} {
		for _, published := range []uint64{0, 1, 8} {
			d := start(t, 9, 8, published)
			d.goOn(t, NewPublish(d.l, time), 50)
			d.expect(t, "P6.2", 50, 8, published)
		}
	}
}

// P6.2: the chapter's example.
func TestExample(t *testing.T) {
	d := start(t, 50, 2, 0)
	x, y := NewPublish(d.l, 1), NewPublish(d.l, 2)
	d.goOn(t, y, 3)
	d.goOn(t, x, 1)
	d.goOn(t, y, 3)
	d.last(t, x)
	d.expect(t, "P6.2", 8, 2, 1)
	d.goOn(t, y, 1)
	d.last(t, y)
	d.expect(t, "P6.2", 10, 2, 2)
}

// P6.3: one step, whatever the cell contains; before it the result is 0.
func TestNow(t *testing.T) {
	for _, time := range append(times(), 0, math.MaxUint64) {
		for _, allocated := range []uint64{0, time, time + 1} {
			d := start(t, 50, allocated, time)
			x := NewNow(d.l)
			if x.Time() != 0 {
				t.Errorf("P6.3: Time is %d before the step", x.Time())
			}
			d.expect(t, "P2.4", 0, allocated, time)
			d.last(t, x)
			if x.Time() != time {
				t.Errorf("P6.3: Time is %d, want %d", x.Time(), time)
			}
			d.expect(t, "P6.3", 1, allocated, time)
		}
	}
}

// P6.3: it is what the cell contained at the step, neither when the machine was made nor afterwards.
func TestNowIsTheStep(t *testing.T) {
	d := start(t, 50, 50, 3)
	x := NewNow(d.l)
	d.setPublished(4)
	d.last(t, x)
	d.setPublished(5)
	d.expectFinished(t, x, 1)
	if x.Time() != 4 {
		t.Errorf("P6.3: Time is %d, want 4", x.Time())
	}
	d.expect(t, "P6.3", 1, 50, 5)
}

// P6.1 to P6.3: a machine works on the memory that it is stepped with, and two memories have nothing in common.
func TestTwoDatabases(t *testing.T) {
	c, d := start(t, 9, 0, 0), start(t, 9, 5, 5)
	x, y := NewAllocate(c.l), NewAllocate(d.l)
	c.goOn(t, x, 1)
	d.goOn(t, y, 1)
	c.last(t, x)
	d.last(t, y)
	expectTime(t, x, 1)
	expectTime(t, y, 6)
	p, q := NewPublish(c.l, 1), NewPublish(d.l, 6)
	c.goOn(t, p, 1)
	d.goOn(t, q, 1)
	d.last(t, q)
	now := NewNow(c.l)
	c.last(t, now)
	if now.Time() != 0 {
		t.Errorf("P6.3: Time is %d, want 0", now.Time())
	}
	c.last(t, p)
	c.expect(t, "P6.2", 5, 1, 1)
	d.expect(t, "P6.2", 4, 6, 6)
}
