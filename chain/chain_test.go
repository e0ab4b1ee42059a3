package chain

import (
	"math"
	"slices"
	"strings"
	"testing"

	"blinktree/api"
	"blinktree/layout"
	"blinktree/memory"
	"blinktree/record"
)

// machine is what P2.4 asks of the machines of this package.
type machine interface{ Step(m *memory.Memory) bool }

// The numbers of chains and records of a database.
const (
	chains  = 5
	records = 8
)

// noChains and noRecords are numbers that no chain and no record has.
var (
	noChains  = []uint64{0, chains + 1, chains + 2, 1<<16 + 1, 1<<32 + 1, 1<<63 + 2, math.MaxUint64}
	noRecords = []uint64{0, records + 1, records + 2, 1<<16 + 1, 1<<32 + 1, 1<<63 + 2, math.MaxUint64}
)

// greatest is the greatest timestamp of all.
const greatest = math.MaxUint64

// order says in which records put stores versions.
var order = []uint64{8, 1, 5, 2}

// database is a memory whose cells are all different, so that none of them can be taken for another one.
type database struct {
	l    layout.Layout
	m    *memory.Memory
	want []api.Cell
}

// start returns a database. The parts of its cells that have no meaning are not zero.
func start(t *testing.T) *database {
	t.Helper()
	return startWith(t, api.Config{Threads: 2, Snapshots: 1, Nodes: 2, Chains: chains, Records: records, Fanout: 4, Clock: 9})
}

// startWith returns a database with a configuration.
func startWith(t *testing.T, c api.Config) *database {
	t.Helper()
	l, m, err := layout.Start(c)
	if err != api.OK {
		t.Fatal(err)
	}
	d := &database{l: l, m: m, want: make([]api.Cell, m.Cells())}
	for i := range d.want {
		d.set(i, junk(i))
	}
	return d
}

// junk returns a cell that is not like the one at any other address.
func junk(i int) api.Cell {
	return api.Cell{N: 100000 + uint64(i), K: "x" + strings.Repeat("\xff", i%30), M: 200000 + uint64(i)}
}

// set changes a cell, as another machine does between two steps.
func (d *database) set(i int, c api.Cell) {
	d.m.Poke(i, c)
	d.want[i] = c
}

// setN stores a number in a cell, with parts beside it that have no meaning.
func (d *database) setN(i int, n uint64) {
	c := junk(i)
	c.N = n
	d.set(i, c)
}

// put stores versions in a chain: the first of them in the first of the records, and so on.
func (d *database) put(chain uint64, versions []api.Version, numbers ...uint64) {
	numbers = append(slices.Clone(numbers[:len(versions)]), 0)
	d.setN(d.l.Chain(chain), numbers[0])
	for i, v := range versions {
		r := numbers[i]
		d.setN(d.l.Stamp(r), v.Stamp)
		d.setN(d.l.Next(r), numbers[i+1])
		c := api.Cell{N: 7, K: v.Value}
		if v.Delete {
			c.M = 1
		}
		d.set(d.l.Value(r), c)
	}
}

// expect reports an error if a cell is not as it should be.
func (d *database) expect(t *testing.T, promise string) {
	t.Helper()
	for i, want := range d.want {
		if d.m.Peek(i) != want {
			t.Fatalf("%s: cell %d is %#v, want %#v", promise, i, d.m.Peek(i), want)
		}
	}
}

// expectChain reports an error if a chain does not have these versions.
func (d *database) expectChain(t *testing.T, promise string, chain uint64, want []api.Version) {
	t.Helper()
	accesses := d.m.Accesses()
	if got := Peek(d.l, d.m, chain); !slices.Equal(got, want) {
		t.Fatalf("%s: chain %d is %v, want %v", promise, chain, got, want)
	}
	if d.m.Accesses() != accesses {
		t.Fatal("P10.5: Peek makes an access")
	}
}

// step makes a step of a machine that has not finished, which must be one access, and reports whether it has finished with it.
func (d *database) step(t *testing.T, x machine) bool {
	t.Helper()
	expectZero(t, x)
	accesses := d.m.Accesses()
	finished := x.Step(d.m)
	if d.m.Accesses() != accesses+1 {
		t.Fatalf("P2.4: %d accesses in one step", d.m.Accesses()-accesses)
	}
	return finished
}

// run makes all steps of a machine.
func (d *database) run(t *testing.T, x machine) {
	t.Helper()
	for steps := 0; !d.step(t, x); steps++ {
		if steps > 3*d.l.Config().Records+10 {
			t.Fatal("rule 1: the machine does not finish")
		}
	}
	d.expectFinished(t, x)
}

// expectFinished makes three more steps of a machine, which must be no accesses and change nothing.
func (d *database) expectFinished(t *testing.T, x machine) {
	t.Helper()
	before := d.m.Copy()
	for range 3 {
		if !x.Step(d.m) {
			t.Fatal("P2.4: a finished machine says that it has not finished")
		}
	}
	if d.m.Accesses() != before.Accesses() {
		t.Fatal("P2.4: a finished machine makes an access")
	}
	for i := range d.m.Cells() {
		if d.m.Peek(i) != before.Peek(i) {
			t.Fatalf("P2.4: a finished machine changes cell %d", i)
		}
	}
}

// once runs a machine that has only one step.
func (d *database) once(t *testing.T, promise string, x machine) {
	t.Helper()
	accesses := d.m.Accesses()
	d.run(t, x)
	if d.m.Accesses() != accesses+1 {
		t.Fatalf("%s: %d steps, want one", promise, d.m.Accesses()-accesses)
	}
}

// expectZero reports an error if a machine that has not finished has a result.
func expectZero(t *testing.T, x machine) {
	t.Helper()
	switch x := x.(type) {
	case *Lookup:
		expectValue(t, "P2.4", x, "", false)
	case *Install:
		if x.Old() != 0 {
			t.Fatalf("P2.4: Old is %d before the end", x.Old())
		}
	case *Truncate:
		if x.Dead() {
			t.Fatal("P2.4: Dead is true before the end")
		}
	}
}

// expectValue reports an error if the value of a Lookup is not the right one.
func expectValue(t *testing.T, promise string, k *Lookup, want string, ok bool) {
	t.Helper()
	if s, in := k.Value(); s != want || in != ok {
		t.Fatalf("%s: Value is %q, %v, want %q, %v", promise, s, in, want, ok)
	}
}

// expectLookup reports an error if a chain with these versions has another value at a time.
func (d *database) expectLookup(t *testing.T, chain uint64, versions []api.Version, time uint64) {
	t.Helper()
	k := NewLookup(d.l, chain, time)
	d.run(t, k)
	want, ok := record.Value(versions, time)
	if s, in := k.Value(); s != want || in != ok {
		t.Fatalf("P10.1: the value of %v at %d is %q, %v, want %q, %v", versions, time, s, in, want, ok)
	}
}

// set returns a version with a value, and gone one with Delete.
func set(stamp uint64, value string) api.Version { return api.Version{Stamp: stamp, Value: value} }
func gone(stamp uint64) api.Version              { return api.Version{Stamp: stamp, Delete: true} }

// top is the greatest stamp of the chains of everyChain.
const top = 3

// everyTime returns times below, at and above these stamps, and far above them.
func everyTime() []uint64 { return []uint64{0, 1, 2, 3, 4, 1 << 40, greatest} }

// everyChain calls use with all lists of at most a number of versions, whether or not they are valid chains.
func everyChain(length int, use func(l []api.Version)) {
	var extend func(l []api.Version)
	extend = func(l []api.Version) {
		use(slices.Clone(l))
		if len(l) == length {
			return
		}
		for stamp := range uint64(top + 1) {
			for _, v := range []api.Version{set(stamp, string(rune('a'+len(l)))), set(stamp, ""), gone(stamp)} {
				extend(append(l[:len(l):len(l)], v))
			}
		}
	}
	extend(nil)
}

// greatChains returns chains whose stamps are as great as a cell can hold, and values as long as they may be.
func greatChains() [][]api.Version {
	return [][]api.Version{
		{set(greatest, "t"), set(greatest-1, "s"), set(1, "a")},
		{set(1<<63, "t"), gone(1<<63 - 1), set(1<<32, "s"), set(1<<31, "r")},
		{set(1<<40+1, "t"), set(1<<40, strings.Repeat("\x00", api.MaxValue)), set(1<<16+1, strings.Repeat("\xff", api.MaxValue))},
		{set(0, "p"), gone(greatest), set(1<<32+1, "s"), set(1, "a")},
	}
}

// timesAround returns the stamps of versions, and the times right below and above them.
func timesAround(versions []api.Version) []uint64 {
	all := []uint64{0, 1, greatest}
	for _, v := range versions {
		all = append(all, v.Stamp-1, v.Stamp, v.Stamp+1)
	}
	return all
}

// The chapter's example, P10.1 and P10.2.
func TestExample(t *testing.T) {
	d := start(t)
	d.put(1, nil)
	d.set(d.l.Stamp(4), api.Cell{})
	d.run(t, NewInstall(d.l, 1, 4, api.Write{Key: "k", Value: "v"}))
	for _, time := range everyTime() {
		d.expectLookup(t, 1, nil, time)
	}
	d.run(t, NewStamp(d.l, 4, 3))
	for _, time := range everyTime() {
		k := NewLookup(d.l, 1, time)
		d.run(t, k)
		if time < 3 {
			expectValue(t, "P10.1", k, "", false)
		} else {
			expectValue(t, "P10.1", k, "v", true)
		}
	}
}

// P10.1, P10.5: all short lists of versions, at all times.
func TestLookup(t *testing.T) {
	d, n := start(t), uint64(0)
	everyChain(3, func(versions []api.Version) {
		chain := n%chains + 1
		n++
		d.put(chain, versions, order...)
		d.expectChain(t, "P10.5", chain, versions)
		for _, time := range everyTime() {
			d.expectLookup(t, chain, versions, time)
		}
		d.expect(t, "P10.1")
	})
}

// P10.1: great stamps and times, and long values.
func TestLookupGreat(t *testing.T) {
	d := start(t)
	for _, versions := range greatChains() {
		d.put(3, versions, order...)
		d.expectChain(t, "P10.5", 3, versions)
		for _, time := range timesAround(versions) {
			d.expectLookup(t, 3, versions, time)
		}
		d.expect(t, "P10.1")
	}
}

// P10.1: the chains of a memory do not disturb each other; each of them has records of its own.
func TestLookupManyChains(t *testing.T) {
	d := start(t)
	all := [][]api.Version{
		{set(3, "c"), set(1, "a")},
		nil,
		{gone(4), set(2, "b"), gone(1)},
		{set(0, "p"), set(4, "d")},
		{set(3, "e")},
	}
	d.put(1, all[0], 8, 1)
	d.put(2, all[1])
	d.put(3, all[2], 2, 7, 3)
	d.put(4, all[3], 4, 6)
	d.put(5, all[4], 5)
	for i, versions := range all {
		d.expectChain(t, "P10.5", uint64(i)+1, versions)
		for _, time := range everyTime() {
			d.expectLookup(t, uint64(i)+1, versions, time)
		}
	}
	d.expect(t, "P10.1")
}

// P10.1, P10.5: as many versions as there are records.
func TestLongChain(t *testing.T) {
	const n = 3000
	d := startWith(t, api.Config{Threads: 1, Snapshots: 1, Nodes: 1, Chains: 1, Records: n, Fanout: 4, Clock: 1})
	var versions []api.Version
	var numbers []uint64
	for i := range uint64(n) {
		versions = append(versions, set(2*(n-i), strings.Repeat("v", int(i%api.MaxValue))))
		numbers = append(numbers, (i*7)%n+1)
	}
	d.put(1, versions, numbers...)
	if got := Peek(d.l, d.m, 1); !slices.Equal(got, versions) {
		t.Errorf("P10.5: Peek of a long chain returns %d versions, or wrong ones", len(got))
	}
	for _, time := range []uint64{0, 1, 2, 3, n, n + 1, 2*n - 1, 2 * n, 2*n + 1} {
		k := NewLookup(d.l, 1, time)
		d.run(t, k)
		want, ok := record.Value(versions, time)
		expectValue(t, "P10.1", k, want, ok)
	}
	d.expect(t, "P10.1")
}

// P10.1: the chain is read when steps are made, not when the machine is made.
func TestLookupReadsLate(t *testing.T) {
	d := start(t)
	d.put(2, []api.Version{set(1, "old")}, 3)
	k := NewLookup(d.l, 2, 5)
	versions := []api.Version{set(4, "new"), set(2, "b")}
	d.put(2, versions, 6, 7)
	d.run(t, k)
	expectValue(t, "P10.1", k, "new", true)
}

// P10.1, P10.5, rule 1: a number that is not a chain has no value and no versions.
func TestNoChain(t *testing.T) {
	d := start(t)
	for _, chain := range noChains {
		for _, time := range everyTime() {
			d.expectLookup(t, chain, nil, time)
		}
		d.expectChain(t, "P10.5", chain, nil)
	}
	d.expect(t, "P10.1")
}

// Rule 1: a chain that leads to a number that is not a record ends there.
func TestNoRecord(t *testing.T) {
	d := start(t)
	for _, r := range noRecords {
		d.put(2, nil)
		d.setN(d.l.Chain(2), r)
		d.expectLookup(t, 2, nil, greatest)
		d.put(2, []api.Version{set(3, "c")}, 8)
		d.setN(d.l.Next(8), r)
		for _, time := range everyTime() {
			d.expectLookup(t, 2, []api.Version{set(3, "c")}, time)
		}
		if got := Peek(d.l, d.m, 2); len(got) == 0 || got[0] != set(3, "c") || len(got) > records {
			t.Errorf("P10.5: Peek is %v", got)
		}
		d.expect(t, "P10.1")
	}
}

// P10.5: a chain that leads back to one of its records has at most Records versions.
func TestPeekCycle(t *testing.T) {
	d := start(t)
	for back := range 3 {
		versions := []api.Version{set(4, "d"), set(2, "b"), gone(1)}
		d.put(4, versions, order...)
		d.setN(d.l.Next(order[2]), order[back])
		var want []api.Version
		for i := 0; len(want) < records; i++ {
			if i == len(versions) {
				i = back
			}
			want = append(want, versions[i])
		}
		d.expectChain(t, "P10.5", 4, want)
		d.expectLookup(t, 4, versions, 1)
		d.expect(t, "P10.5")
	}
}

// P10.5, rule 1: whatever is in a memory, Peek ends, with at most Records versions.
func TestPeekAnyMemory(t *testing.T) {
	d := start(t)
	x := uint64(1)
	for range 2000 {
		for i := range d.want {
			x = next(x)
			d.set(i, api.Cell{N: x >> 40 % 12, K: "k", M: x >> 50 % 3})
		}
		for chain := range uint64(chains + 2) {
			if got := Peek(d.l, d.m, chain); len(got) > records {
				t.Fatalf("P10.5: %d versions", len(got))
			}
		}
		d.expect(t, "P10.5")
	}
	if d.m.Accesses() != 0 {
		t.Error("P10.5: Peek makes an access")
	}
}

// Rule 3: the result of Peek is new memory.
func TestPeekIsNew(t *testing.T) {
	d := start(t)
	versions := []api.Version{set(4, "d"), gone(2)}
	d.put(5, versions, order...)
	got := Peek(d.l, d.m, 5)
	again := Peek(d.l, d.m, 5)
	clear(got[:cap(got)])
	if !slices.Equal(again, versions) {
		t.Errorf("rule 3: two results share memory: %v", again)
	}
	d.expectChain(t, "rule 3", 5, versions)
}

// next returns the next state of a sequence of numbers that seem random.
func next(x uint64) uint64 { return x*6364136223846793005 + 1442695040888963407 }
