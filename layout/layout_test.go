package layout

import (
	"math"
	"testing"

	"blinktree/api"
	"blinktree/memory"
)

// example is the configuration of the chapter's example, with five chains and seven records.
var example = api.Config{Threads: 2, Snapshots: 1, Nodes: 3, Chains: 5, Records: 7, Fanout: 4, Clock: 9}

var (
	least    = api.Config{Threads: 1, Snapshots: 1, Nodes: 1, Chains: 1, Records: 1, Fanout: 4, Clock: 1}
	greatest = api.Config{Threads: 64, Snapshots: 8, Nodes: 4096, Chains: 16384, Records: 65536, Fanout: 32, Clock: 1 << 40}
)

// configs returns valid configurations: all small ones of some sizes, ones with a single great size, and the extremes.
func configs() []api.Config {
	all := []api.Config{example, least, greatest}
	for n := range 64 {
		bit := func(i int) int { return n >> i & 1 }
		all = append(all, api.Config{
			Threads: 1 + 2*bit(0), Snapshots: 1 + bit(1), Nodes: 1 + 4*bit(2),
			Chains: 1 + bit(3), Records: 1 + 3*bit(4), Fanout: 4 + 3*bit(5), Clock: uint64(n) + 1,
		})
	}
	for k := range fields {
		c := least
		set(&c, k, maximum(k))
		all = append(all, c)
		c = greatest
		set(&c, k, minimum(k))
		all = append(all, c)
	}
	return all
}

// fields is the number of the sizes of a configuration that are ints; the Clock is tested by itself.
const fields = 6

// set sets the k-th size.
func set(c *api.Config, k, n int) {
	*[]*int{&c.Threads, &c.Snapshots, &c.Nodes, &c.Chains, &c.Records, &c.Fanout}[k] = n
}

// minimum and maximum are the bounds of P3.1.
func minimum(k int) int { return []int{1, 1, 1, 1, 1, 4}[k] }

func maximum(k int) int { return []int{64, 8, 4096, 16384, 65536, 32}[k] }

// layoutOf returns the layout of a valid configuration.
func layoutOf(t *testing.T, c api.Config) Layout {
	t.Helper()
	l, err := New(c)
	if err != api.OK {
		t.Fatalf("P3.1: New(%+v): %v", c, err)
	}
	return l
}

// expectValid reports an error if Valid, New or Start do not agree with want.
func expectValid(t *testing.T, c api.Config, want bool) {
	t.Helper()
	errno := api.OK
	if !want {
		errno = api.ErrInvalid
	}
	if got := Valid(c); got != want {
		t.Errorf("P3.1: Valid(%+v) is %v", c, got)
	}
	l, err := New(c)
	if err != errno || want && l.Config() != c || !want && l != (Layout{}) {
		t.Errorf("P3.1: New(%+v): %+v, %v", c, l, err)
	}
	s, m, err := Start(c)
	if err != errno || s != l || (m != nil) != want {
		t.Errorf("P3.4: Start(%+v): %+v, %v, %v", c, s, m != nil, err)
	}
}

// P3.1: each size at its bounds, beside them, and far away from them, with the other sizes least and greatest.
func TestValid(t *testing.T) {
	expectValid(t, api.Config{}, false)
	for _, base := range []api.Config{least, greatest, example} {
		expectValid(t, base, true)
		for k := range fields {
			for _, n := range []int{
				math.MinInt, -maximum(k), -minimum(k), -1, 0, 1, 2, 3, 4, 5, minimum(k) - 1, minimum(k), minimum(k) + 1,
				maximum(k) - 1, maximum(k), maximum(k) + 1, 2 * maximum(k), 1<<32 + minimum(k), math.MaxInt,
			} {
				c := base
				set(&c, k, n)
				expectValid(t, c, n >= minimum(k) && n <= maximum(k))
			}
		}
	}
}

// P3.1: the greatest timestamp is from 1 to 2^40.
func TestValidClock(t *testing.T) {
	for _, base := range []api.Config{least, greatest, example} {
		for _, c := range []struct {
			clock uint64
			want  bool
		}{
			{0, false}, {1, true}, {2, true}, {1 << 31, true}, {1 << 32, true}, {1<<40 - 1, true}, {1 << 40, true},
			{1<<40 + 1, false}, {1<<41 + 1, false}, {1 << 63, false}, {1<<63 + 1, false}, {math.MaxUint64, false},
		} {
			x := base
			x.Clock = c.clock
			expectValid(t, x, c.want)
		}
	}
}

// P3.1: two sizes that are not valid are not valid together, although their product may be.
func TestValidTwoSizes(t *testing.T) {
	for i := range fields {
		for j := range fields {
			for _, n := range []int{-1, 0, math.MaxInt} {
				c := example
				set(&c, i, n)
				set(&c, j, n)
				expectValid(t, c, false)
			}
		}
	}
}

// P3.1: Config returns all of the configuration.
func TestConfig(t *testing.T) {
	for _, c := range configs() {
		l := layoutOf(t, c)
		if l.Config() != c || l.Config() != c {
			t.Errorf("P3.1: Config is %+v, want %+v", l.Config(), c)
		}
	}
}

// P3.2: the chapter's example.
func TestExample(t *testing.T) {
	l := layoutOf(t, example)
	if l.Snapshot(1, 0) != 9 || l.Latch(1) != 10 || l.Slot(1, 3) != 17 || l.Chain(1) != 34 {
		t.Errorf("P3.2: %d, %d, %d, %d", l.Snapshot(1, 0), l.Latch(1), l.Slot(1, 3), l.Chain(1))
	}
	if l.Stamp(1) != 39 || l.Value(1) != 40 || l.Next(1) != 41 || l.Next(7) != 59 || l.Cells() != 60 {
		t.Errorf("P3.2: %d, %d, %d, %d, %d", l.Stamp(1), l.Value(1), l.Next(1), l.Next(7), l.Cells())
	}
}

// P3.2: the cells that exist once have the same addresses in each layout.
func TestSingleCells(t *testing.T) {
	for _, c := range configs() {
		for i, a := range single(layoutOf(t, c)) {
			if a != i {
				t.Errorf("P3.2: %+v: single cell %d has the address %d", c, i, a)
			}
		}
	}
}

// single returns the addresses of the cells that exist once, in the order of P3.2's table.
func single(l Layout) []int {
	return []int{
		l.Root(), l.Allocated(), l.Published(), l.Floor(), l.Nodes(), l.Chains(), l.Records(), l.Grow(),
	}
}

// nodeCell returns the address of a node's cell: latch, head, high, right, and then the slots.
func nodeCell(l Layout, node uint64, part int) int {
	switch part {
	case 0:
		return l.Latch(node)
	case 1:
		return l.Head(node)
	case 2:
		return l.High(node)
	case 3:
		return l.Right(node)
	}
	return l.Slot(node, part-4)
}

// recordCell returns the address of a record's cell: stamp, value, next.
func recordCell(l Layout, record uint64, part int) int {
	return []int{l.Stamp(record), l.Value(record), l.Next(record)}[part]
}

// P3.2: the addresses are those of the formulas in the table.
func TestAddresses(t *testing.T) {
	for _, c := range configs() {
		l := layoutOf(t, c)
		a := 8 + c.Threads*c.Snapshots
		b := a + c.Nodes*(c.Fanout+4)
		r := b + c.Chains
		if l.Cells() != r+3*c.Records {
			t.Errorf("P3.2: %+v: %d cells", c, l.Cells())
		}
		for i := range c.Threads * c.Snapshots {
			if got := l.Snapshot(i/c.Snapshots, i%c.Snapshots); got != 8+i {
				t.Errorf("P3.2: %+v: snapshot %d has the address %d", c, i, got)
			}
		}
		for i := range c.Nodes * (c.Fanout + 4) {
			if got := nodeCell(l, uint64(i/(c.Fanout+4)+1), i%(c.Fanout+4)); got != a+i {
				t.Fatalf("P3.2: %+v: cell %d of the nodes has the address %d", c, i, got)
			}
		}
		for i := range c.Chains {
			if got := l.Chain(uint64(i) + 1); got != b+i {
				t.Fatalf("P3.2: %+v: chain %d has the address %d", c, i+1, got)
			}
		}
		for i := range c.Records * 3 {
			if got := recordCell(l, uint64(i/3+1), i%3); got != r+i {
				t.Fatalf("P3.2: %+v: cell %d of the records has the address %d", c, i, got)
			}
		}
	}
}

// P3.2: the addresses of the greatest configuration, written as numbers.
func TestGreatestAddresses(t *testing.T) {
	l := layoutOf(t, greatest)
	for i, c := range []struct{ got, want int }{
		{l.Snapshot(63, 7), 519}, {l.Latch(1), 520}, {l.Slot(1, 31), 555}, {l.Head(4096), 147941}, {l.Slot(4096, 31), 147975},
		{l.Chain(1), 147976}, {l.Chain(16384), 164359}, {l.Stamp(1), 164360}, {l.Next(65536), 360967}, {l.Cells(), 360968},
	} {
		if c.got != c.want {
			t.Errorf("P3.2: row %d: %d, want %d", i, c.got, c.want)
		}
	}
	if l.Cells() > memory.MaxCells {
		t.Errorf("P3.2: %d cells are too many for a memory", l.Cells())
	}
}

// P3.2: the Clock is not part of an address.
func TestClockChangesNoAddress(t *testing.T) {
	c := example
	c.Clock = api.MaxClock
	a, b := layoutOf(t, example), layoutOf(t, c)
	if a.Cells() != b.Cells() || a.Next(7) != b.Next(7) || a.Slot(3, 3) != b.Slot(3, 3) || a.Snapshot(1, 0) != b.Snapshot(1, 0) {
		t.Error("P3.2: another Clock gives other addresses")
	}
}

// outside returns numbers that no object has if there are count of them. In the arithmetic of 64 or 32 bits some of them
// lead to an address of an object.
func outside(count int) []uint64 {
	n := uint64(count)
	all := []uint64{0, n + 1, n + 2, 2*n + 1, 1<<31 + 1, 1<<32 + 1, math.MaxUint64, math.MaxUint64 - 1, math.MaxUint64 - n}
	for shift := 33; shift < 64; shift++ {
		all = append(all, 1<<shift, 1<<shift+1, 1<<shift+n, 1<<shift-1)
	}
	return all
}

// P3.3: a node, a chain or a record that does not exist.
func TestNumbersOutside(t *testing.T) {
	for _, c := range configs() {
		l := layoutOf(t, c)
		for _, n := range outside(c.Nodes) {
			for part := range c.Fanout + 4 {
				if got := nodeCell(l, n, part); got != -1 {
					t.Errorf("P3.3: %+v: cell %d of node %d: %d", c, part, n, got)
				}
			}
		}
		for _, n := range outside(c.Chains) {
			if got := l.Chain(n); got != -1 {
				t.Errorf("P3.3: %+v: chain %d: %d", c, n, got)
			}
		}
		for _, n := range outside(c.Records) {
			for part := range 3 {
				if got := recordCell(l, n, part); got != -1 {
					t.Errorf("P3.3: %+v: cell %d of record %d: %d", c, part, n, got)
				}
			}
		}
	}
}

// positions returns numbers that no position has if there are count of them: also ones at which the address of a
// neighbour lies.
func positions(count int) []int {
	return []int{
		-1, -2, -4, -count, -count - 4, count, count + 1, count + 4, 2 * count, 1 << 31, 1 << 32, -1 << 32,
		1 << 62, math.MaxInt, math.MinInt, math.MinInt + 1,
	}
}

// P3.3: a slot that does not exist, of nodes that exist and of ones that do not.
func TestSlotsOutside(t *testing.T) {
	for _, c := range configs() {
		l := layoutOf(t, c)
		for _, node := range append(outside(c.Nodes), 1, uint64(c.Nodes), uint64(c.Nodes)/2+1) {
			for _, i := range positions(c.Fanout) {
				if got := l.Slot(node, i); got != -1 {
					t.Errorf("P3.3: %+v: slot %d of node %d: %d", c, i, node, got)
				}
			}
		}
	}
}

// P3.3: a thread or a snapshot that does not exist, with another number that exists and with one that does not.
func TestSnapshotsOutside(t *testing.T) {
	for _, c := range configs() {
		l := layoutOf(t, c)
		for _, thread := range positions(c.Threads) {
			for _, j := range append(positions(c.Snapshots), 0, c.Snapshots-1) {
				if got := l.Snapshot(thread, j); got != -1 {
					t.Errorf("P3.3: %+v: snapshot %d of thread %d: %d", c, j, thread, got)
				}
			}
		}
		for _, j := range positions(c.Snapshots) {
			for thread := range c.Threads {
				if got := l.Snapshot(thread, j); got != -1 {
					t.Errorf("P3.3: %+v: snapshot %d of thread %d: %d", c, j, thread, got)
				}
			}
		}
	}
}

// P3.4: all cells of an empty database, and no access.
func TestStart(t *testing.T) {
	for _, c := range configs() {
		l, m, err := Start(c)
		if err != api.OK || m == nil {
			t.Fatalf("P3.4: Start(%+v): %v", c, err)
		}
		if l != layoutOf(t, c) || m.Cells() != l.Cells() || m.Accesses() != 0 {
			t.Errorf("P3.4: %+v: %d cells, %d accesses", c, m.Cells(), m.Accesses())
		}
		// P3.2 puts node 1 behind the snapshots, and its High behind its latch and its Head.
		want := map[int]api.Cell{0: {N: 1}, 4: {N: 1}, 8 + c.Threads*c.Snapshots + 2: {M: 1}}
		for i := range m.Cells() {
			if m.Peek(i) != want[i] {
				t.Errorf("P3.4: %+v: cell %d is %+v, want %+v", c, i, m.Peek(i), want[i])
			}
		}
	}
}

// P3.4: node 1 by its names: the root, the only node, not locked, and without slots, high key and sibling.
func TestStartRoot(t *testing.T) {
	l, m, _ := Start(example)
	if m.Peek(l.Root()) != (api.Cell{N: 1}) || m.Peek(l.Nodes()) != (api.Cell{N: 1}) {
		t.Errorf("P3.4: root %+v, nodes %+v", m.Peek(l.Root()), m.Peek(l.Nodes()))
	}
	if m.Peek(l.Head(1)) != (api.Cell{}) || m.Peek(l.High(1)) != (api.Cell{M: 1}) {
		t.Errorf("P3.4: head %+v, high %+v", m.Peek(l.Head(1)), m.Peek(l.High(1)))
	}
	if m.Peek(l.Latch(1)) != (api.Cell{}) || m.Peek(l.Right(1)) != (api.Cell{}) || m.Peek(l.Slot(1, 0)) != (api.Cell{}) {
		t.Error("P3.4: latch, right or slot of node 1")
	}
	if m.Peek(l.High(2)) != (api.Cell{}) || m.Peek(l.Chains()) != (api.Cell{}) || m.Peek(l.Records()) != (api.Cell{}) {
		t.Error("P3.4: another node, a chain or a record is in use")
	}
}

// P3.4: each call returns a memory of its own.
func TestStartIsIndependent(t *testing.T) {
	l, a, _ := Start(example)
	a.Store(l.Root(), api.Cell{N: 2, K: "x", M: 3})
	_, b, _ := Start(example)
	if a == b || b.Peek(l.Root()) != (api.Cell{N: 1}) || b.Accesses() != 0 || a.Accesses() != 1 {
		t.Error("P3.4: a second memory depends on the first one")
	}
}

// P3.4: a configuration that is not valid gives neither a layout nor a memory.
func TestStartInvalid(t *testing.T) {
	wrong := []api.Config{{}, example, example, example}
	wrong[1].Nodes = 0
	wrong[2].Records = math.MaxInt
	wrong[3].Clock = 0
	for _, c := range wrong {
		if l, m, err := Start(c); l != (Layout{}) || m != nil || err != api.ErrInvalid {
			t.Errorf("P3.4: Start(%+v): %+v, %v, %v", c, l, m != nil, err)
		}
	}
}

// P3.5: the cells are numbered without a gap and without an overlap.
func TestPartition(t *testing.T) {
	for _, c := range configs() {
		l := layoutOf(t, c)
		addresses := single(l)
		for thread := range c.Threads {
			for j := range c.Snapshots {
				addresses = append(addresses, l.Snapshot(thread, j))
			}
		}
		for n := range c.Nodes {
			for part := range c.Fanout + 4 {
				addresses = append(addresses, nodeCell(l, uint64(n)+1, part))
			}
		}
		for n := range c.Chains {
			addresses = append(addresses, l.Chain(uint64(n)+1))
		}
		for n := range c.Records {
			for part := range 3 {
				addresses = append(addresses, recordCell(l, uint64(n)+1, part))
			}
		}
		expectPartition(t, c, addresses, l.Cells())
	}
}

// expectPartition reports an error if the addresses are not the numbers from 0 to cells - 1, each of them once.
func expectPartition(t *testing.T, c api.Config, addresses []int, cells int) {
	t.Helper()
	if len(addresses) != cells {
		t.Errorf("P3.5: %+v: %d addresses of %d cells", c, len(addresses), cells)
	}
	seen := make([]bool, cells)
	for _, a := range addresses {
		if a < 0 || a >= cells {
			t.Errorf("P3.5: %+v: address %d of %d cells", c, a, cells)
			continue
		}
		if seen[a] {
			t.Errorf("P3.5: %+v: two cells have the address %d", c, a)
		}
		seen[a] = true
	}
}

// P3.5: a memory distinguishes the cells: what is stored in each is found there afterwards.
func TestCellsInMemory(t *testing.T) {
	l, m, _ := Start(example)
	stored := map[int]uint64{}
	store := func(a int) {
		stored[a] = uint64(a)*7 + 1
		m.Store(a, api.Cell{N: stored[a]})
	}
	for n := uint64(1); n <= 3; n++ {
		for part := range example.Fanout + 4 {
			store(nodeCell(l, n, part))
		}
	}
	for n := uint64(1); n <= 7; n++ {
		for part := range 3 {
			store(recordCell(l, n, part))
		}
	}
	for a, n := range stored {
		if m.Peek(a).N != n {
			t.Errorf("P3.5: cell %d is %+v, want %d", a, m.Peek(a), n)
		}
	}
	if len(stored) != 3*8+7*3 || m.Accesses() != uint64(len(stored)) {
		t.Errorf("P3.5: %d cells, %d accesses", len(stored), m.Accesses())
	}
}

// P3.1 to P3.3: a layout is a value; a copy of it and the layouts of other configurations do not change it.
func TestLayoutIsAValue(t *testing.T) {
	l := layoutOf(t, example)
	other := l
	other = layoutOf(t, greatest)
	if l != layoutOf(t, example) || l == other || l.Cells() != 60 || l.Latch(4) != -1 || other.Latch(4) == -1 {
		t.Error("P3.1: a layout depends on another one")
	}
}
