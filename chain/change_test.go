package chain

import (
	"slices"
	"strings"
	"testing"

	"blinktree/api"
	"blinktree/record"
)

// change runs a machine, and returns the addresses of the cells that it has changed, in the order of its steps.
func (d *database) change(t *testing.T, x machine) []int {
	t.Helper()
	var list []int
	for finished := false; !finished; {
		before := d.m.Copy()
		finished = d.step(t, x)
		for i := range d.m.Cells() {
			if d.m.Peek(i) != before.Peek(i) {
				list = append(list, i)
			}
		}
		if len(list) > 9 {
			t.Fatal("rule 1: too many changes")
		}
	}
	d.expectFinished(t, x)
	return list
}

// writes returns writes with all kinds of values, and what the chapter says is stored for them.
func writes() ([]api.Write, []api.Cell) {
	long := strings.Repeat("\xff", api.MaxValue)
	return []api.Write{{Key: "k", Value: "v"}, {Key: "", Value: ""}, {Key: "k", Value: "\x00"}, {Key: "m", Value: long}, {Key: "k", Delete: true}},
		[]api.Cell{{K: "v"}, {}, {K: "\x00"}, {K: long}, {M: 1}}
}

// pendingOf returns the pending version that a write makes.
func pendingOf(w api.Write) api.Version { return api.Version{Value: w.Value, Delete: w.Delete} }

// P10.2: Install into chains of all kinds. The new record is complete before it becomes the newest one.
func TestInstall(t *testing.T) {
	list, cells := writes()
	for n, versions := range [][]api.Version{nil, {set(1, "a")}, {gone(3), set(2, "b")}, {set(0, "p"), set(4, "d"), gone(2), set(1, "a")}} {
		for i, w := range list {
			for _, r := range []uint64{3, 4, 6, 7} {
				d, chain := start(t), uint64(n+i)%chains+1
				d.put(chain, versions, order...)
				d.setN(d.l.Stamp(r), 0)
				old := append(slices.Clone(order[:len(versions)]), 0)[0]
				x := NewInstall(d.l, chain, r, w)
				changed := d.change(t, x)
				d.want[d.l.Value(r)] = cells[i]
				d.want[d.l.Next(r)] = api.Cell{N: old}
				d.want[d.l.Chain(chain)] = api.Cell{N: r}
				d.expect(t, "P10.2")
				if want := []int{d.l.Value(r), d.l.Next(r), d.l.Chain(chain)}; !slices.Equal(changed, want) {
					t.Fatalf("P10.2: Install stores in the cells %v, want %v", changed, want)
				}
				if x.Old() != old {
					t.Fatalf("P10.2: Old is %d, want %d", x.Old(), old)
				}
				d.expectChain(t, "P10.2", chain, append([]api.Version{pendingOf(w)}, versions...))
			}
		}
	}
}

// P10.2: the newest record is the one that is there at the first step, not the one when the machine is made.
func TestInstallLoadsLate(t *testing.T) {
	d := start(t)
	d.put(2, []api.Version{set(1, "a")}, 3)
	x := NewInstall(d.l, 2, 4, api.Write{Value: "v"})
	d.put(2, []api.Version{set(2, "b"), set(1, "a")}, 5, 3)
	d.setN(d.l.Stamp(4), 0)
	d.run(t, x)
	if x.Old() != 5 {
		t.Errorf("P10.2: Old is %d, want 5", x.Old())
	}
	d.expectChain(t, "P10.2", 2, []api.Version{set(0, "v"), set(2, "b"), set(1, "a")})
}

// P10.2: Stamp stores in one cell, in its only step.
func TestStamp(t *testing.T) {
	for r := uint64(1); r <= records; r++ {
		for _, time := range []uint64{1, 2, 3, 1 << 16, 1 << 32, api.MaxClock, 1 << 63, greatest} {
			d := start(t)
			x := NewStamp(d.l, r, time)
			d.expect(t, "P2.4")
			d.once(t, "P10.2", x)
			d.want[d.l.Stamp(r)] = api.Cell{N: time}
			d.expect(t, "P10.2: Stamp")
		}
	}
}

// P10.2: Restore stores in one cell, in its only step.
func TestRestore(t *testing.T) {
	for chain := uint64(1); chain <= chains; chain++ {
		for old := range uint64(records + 1) {
			d := start(t)
			x := NewRestore(d.l, chain, old)
			d.expect(t, "P2.4")
			d.once(t, "P10.2", x)
			d.want[d.l.Chain(chain)] = api.Cell{N: old}
			d.expect(t, "P10.2: Restore")
		}
	}
}

// P10.2: Restore takes back an Install, and the last of several ones first; then the chain is as it was.
func TestRestoreTakesBack(t *testing.T) {
	list, _ := writes()
	for n := range 4 {
		versions := []api.Version{set(4, "d"), gone(2), set(1, "a")}[3-n:]
		d := start(t)
		d.put(3, versions, order...)
		var installs []*Install
		for i, r := range []uint64{3, 7, 4, 6} {
			d.setN(d.l.Stamp(r), 0)
			x := NewInstall(d.l, 3, r, list[i])
			d.run(t, x)
			installs = append(installs, x)
		}
		for i := len(installs) - 1; i >= 0; i-- {
			d.once(t, "P10.2", NewRestore(d.l, 3, installs[i].Old()))
			if i > 0 {
				d.expectChain(t, "P10.2", 3, append([]api.Version{pendingOf(list[i-1])}, Peek(d.l, d.m, 3)[1:]...))
			}
		}
		d.expectChain(t, "P10.2", 3, versions)
		for _, time := range everyTime() {
			d.expectLookup(t, 3, versions, time)
		}
	}
}

// P10.2, P10.1: batches after each other, whose versions are all kept: each time sees its own one.
func TestManyInstalls(t *testing.T) {
	d := start(t)
	d.put(2, nil)
	var versions []api.Version
	list, _ := writes()
	for i, r := range []uint64{5, 1, 8, 2, 7} {
		d.setN(d.l.Stamp(r), 0)
		x := NewInstall(d.l, 2, r, list[i])
		d.run(t, x)
		for _, time := range everyTime() {
			d.expectLookup(t, 2, versions, time)
		}
		v := pendingOf(list[i])
		v.Stamp = uint64(2*i + 1)
		d.run(t, NewStamp(d.l, r, v.Stamp))
		versions = append([]api.Version{v}, versions...)
		d.expectChain(t, "P10.2", 2, versions)
		for time := range v.Stamp + 3 {
			d.expectLookup(t, 2, versions, time)
		}
	}
}

// expectTruncate cuts a chain, and reports an error if that is not done as P10.3 says.
func (d *database) expectTruncate(t *testing.T, chain uint64, versions []api.Version, floor uint64) {
	t.Helper()
	d.put(chain, versions, order...)
	want := record.Cut(versions, floor)
	x := NewTruncate(d.l, chain, floor)
	d.run(t, x)
	if len(want) < len(versions) {
		d.want[d.l.Next(order[len(want)-1])] = api.Cell{}
	}
	d.expect(t, "P10.3")
	d.expectChain(t, "P10.3", chain, want)
	if dead := record.Dead(want, floor); x.Dead() != dead {
		t.Fatalf("P10.3: Dead of %v at %d is %v, want %v", versions, floor, x.Dead(), dead)
	}
	d.expectAgain(t, chain, want, floor)
}

// expectAgain cuts a chain with the same floor again, which must change nothing.
func (d *database) expectAgain(t *testing.T, chain uint64, versions []api.Version, floor uint64) {
	t.Helper()
	x := NewTruncate(d.l, chain, floor)
	if changed := d.change(t, x); len(changed) > 0 {
		t.Fatalf("P10.3: cutting %v again at %d changes the cells %v", versions, floor, changed)
	}
	if dead := record.Dead(versions, floor); x.Dead() != dead {
		t.Fatalf("P10.3: Dead of %v at %d is %v, want %v", versions, floor, x.Dead(), dead)
	}
}

// P10.3: all short chains without a pending version, at all floors.
func TestTruncate(t *testing.T) {
	d, n := start(t), uint64(0)
	everyChain(3, func(versions []api.Version) {
		n++
		if !record.Check(versions) || len(versions) > 0 && versions[0].Stamp == 0 {
			return
		}
		for _, floor := range everyTime() {
			d.expectTruncate(t, n%chains+1, versions, floor)
		}
	})
}

// P10.3: great stamps and floors.
func TestTruncateGreat(t *testing.T) {
	for _, versions := range greatChains() {
		for _, floor := range timesAround(versions) {
			d := start(t)
			d.expectTruncate(t, 4, versions, floor)
		}
	}
}

// P10.3: rows whose results are written out.
func TestTruncateRows(t *testing.T) {
	for i, c := range []struct {
		versions []api.Version
		floor    uint64
		left     int
		dead     bool
	}{
		{nil, 0, 0, true},
		{nil, greatest, 0, true},
		{[]api.Version{set(7, "g"), set(4, "d"), set(2, "b")}, 5, 2, false},
		{[]api.Version{set(7, "g"), set(4, "d"), set(2, "b")}, 1, 3, false},
		{[]api.Version{set(7, "g"), set(4, "d"), set(2, "b")}, 7, 1, false},
		{[]api.Version{gone(7), set(4, "d"), set(2, "b")}, 6, 2, false},
		{[]api.Version{gone(7), set(4, "d"), set(2, "b")}, 7, 1, true},
		{[]api.Version{set(7, "g"), gone(4), set(2, "b")}, 4, 2, false},
		{[]api.Version{set(7, "g"), gone(4)}, 5, 2, false},
		{[]api.Version{gone(7)}, 6, 1, false},
		{[]api.Version{gone(7)}, 7, 1, true},
		{[]api.Version{set(7, "")}, 7, 1, false},
		{[]api.Version{gone(1)}, 0, 1, false},
		{[]api.Version{gone(1)}, 1, 1, true},
	} {
		d := start(t)
		d.put(5, c.versions, order...)
		x := NewTruncate(d.l, 5, c.floor)
		d.run(t, x)
		d.expectChain(t, "P10.3", 5, c.versions[:c.left])
		if x.Dead() != c.dead {
			t.Errorf("P10.3: row %d: Dead is %v", i, x.Dead())
		}
	}
}

// P10.3: a floor that rises, with versions that are added meanwhile.
func TestTruncateAgainAndAgain(t *testing.T) {
	d := startWith(t, api.Config{Threads: 1, Snapshots: 1, Nodes: 1, Chains: 2, Records: 200, Fanout: 4, Clock: 1})
	d.put(2, nil)
	var versions []api.Version
	for stamp := uint64(1); stamp <= 200; stamp++ {
		v, w := set(stamp, "v"), api.Write{Value: "v"}
		if stamp%3 == 0 {
			v, w = gone(stamp), api.Write{Delete: true}
		}
		d.setN(d.l.Stamp(stamp), 0)
		d.run(t, NewInstall(d.l, 2, stamp, w))
		d.run(t, NewStamp(d.l, stamp, stamp))
		versions = append([]api.Version{v}, versions...)
		if stamp%7 == 0 {
			floor := stamp - stamp%4
			x := NewTruncate(d.l, 2, floor)
			d.run(t, x)
			versions = record.Cut(versions, floor)
			if x.Dead() != record.Dead(versions, floor) {
				t.Fatalf("P10.3: Dead is %v", x.Dead())
			}
		}
		d.expectChain(t, "P10.3", 2, versions)
	}
}

// Rule 1: machines that are given numbers of chains or records that do not exist finish, and change nothing else.
func TestChangeNothing(t *testing.T) {
	d := start(t)
	for _, chain := range noChains {
		d.once(t, "P10.2", NewRestore(d.l, chain, 3))
		x := NewTruncate(d.l, chain, 5)
		d.run(t, x)
		if !x.Dead() {
			t.Error("P10.3: a chain that does not exist has no version")
		}
		d.expect(t, "rule 1")
	}
	for _, r := range noRecords {
		d.once(t, "P10.2", NewStamp(d.l, r, 3))
		d.expect(t, "rule 1")
		i := NewInstall(d.l, noChains[0], r, api.Write{Value: "v"})
		d.run(t, i)
		if i.Old() != 0 {
			t.Errorf("P10.2: Old is %d", i.Old())
		}
		d.expect(t, "rule 1")
	}
}
