package chain

import (
	"slices"
	"testing"

	"blinktree/api"
	"blinktree/layout"
	"blinktree/record"
)

// change is what a writer does to a chain, which it has locked.
type change struct {
	code   int
	chain  uint64 // the one of a Restore in a play; the tests in all orders have but one chain
	record uint64 // the one that is installed or stamped, or the older one that is restored
	n      uint64 // the stamp or the floor
	write  api.Write
}

// The codes of changes.
const (
	install = iota
	stamp
	restore
	truncate
)

// machine returns the machine that makes a change.
func (c change) machine(l layout.Layout, chain uint64) machine {
	switch c.code {
	case install:
		return NewInstall(l, chain, c.record, c.write)
	case stamp:
		return NewStamp(l, c.record, c.n)
	case restore:
		return NewRestore(l, chain, c.record)
	}
	return NewTruncate(l, chain, c.n)
}

// The changes of the tests.
func installing(r uint64, value string) change {
	return change{code: install, record: r, write: api.Write{Value: value}}
}
func deleting(r uint64) change {
	return change{code: install, record: r, write: api.Write{Delete: true}}
}
func stamping(r, time uint64) change   { return change{code: stamp, record: r, n: time} }
func restoring(r uint64) change        { return change{code: restore, record: r} }
func truncating(floor uint64) change   { return change{code: truncate, n: floor} }
func scenario(list ...change) []change { return list }

// match is a chain, a writer that makes changes to it, and a reader.
type match struct {
	d       *database
	lookup  *Lookup
	read    bool
	changes []change
	writer  machine
}

// newMatch returns a match in a copy of a database.
func newMatch(d *database, time uint64, changes []change) *match {
	return &match{d: &database{l: d.l, m: d.m.Copy()}, lookup: NewLookup(d.l, 1, time), changes: changes}
}

// prepared returns a database in which chain 1 has some versions, in the records of order, and the records that are to be installed
// have no stamp.
func prepared(t *testing.T, versions []api.Version, changes []change) *database {
	t.Helper()
	d := start(t)
	d.put(1, versions, order...)
	for _, c := range changes {
		if c.code == install {
			d.setN(d.l.Stamp(c.record), 0)
		}
	}
	return d
}

// write makes a step of the writer.
func (g *match) write(t *testing.T) {
	t.Helper()
	if g.writer == nil && len(g.changes) > 0 {
		g.writer = g.changes[0].machine(g.d.l, 1)
		g.changes = g.changes[1:]
	}
	if g.writer != nil && g.d.step(t, g.writer) {
		g.writer = nil
	}
}

// written reports whether the writer has finished.
func (g *match) written() bool { return g.writer == nil && len(g.changes) == 0 }

// look makes a step of the reader.
func (g *match) look(t *testing.T) {
	t.Helper()
	if !g.read {
		g.read = g.d.step(t, g.lookup)
	}
}

// finish makes steps of both until they have finished.
func (g *match) finish(t *testing.T) {
	t.Helper()
	for rounds := 0; !g.read || !g.written(); rounds++ {
		if rounds > 100 {
			t.Fatal("P10.4: a machine does not finish")
		}
		g.look(t)
		g.write(t)
	}
}

// allOrders plays a reader and a writer in all orders of so many picks, followed by fair ones. Whatever the order is, the value is
// that of the chain at the beginning.
func allOrders(t *testing.T, versions []api.Version, time uint64, picks int, changes []change) {
	t.Helper()
	d := prepared(t, versions, changes)
	want, ok := record.Value(versions, time)
	for order := range 1 << picks {
		g := newMatch(d, time, changes)
		for n := range picks {
			if order>>n&1 == 0 {
				g.look(t)
			} else {
				g.write(t)
			}
		}
		g.finish(t)
		if s, in := g.lookup.Value(); s != want || in != ok {
			t.Fatalf("P10.4: the value of %v at %d is %q, %v, want %q, %v: changes %v, order %b", versions, time, s, in, want, ok, changes, order)
		}
		if s, in := record.Value(Peek(g.d.l, g.d.m, 1), time); s != want || in != ok {
			t.Fatalf("P10.4: after the changes %v, the value of %v at %d is %q, %v", changes, versions, time, s, in)
		}
	}
}

// P10.4: the changes that P10.4 allows beside a reader at time 4, in all orders.
func TestLookupInAllOrders(t *testing.T) {
	for _, versions := range [][]api.Version{
		nil,
		{set(4, "d")},
		{gone(4), set(3, "c")},
		{set(5, "e"), set(4, "d"), set(2, "b")},
		{set(6, "f"), gone(5)},
		{set(7, "g"), set(6, "f"), set(3, "c"), set(1, "a")},
	} {
		oldest := append(slices.Clone(order[:len(versions)]), 0)[0]
		for _, changes := range [][]change{
			scenario(installing(3, "x"), stamping(3, 8)),
			scenario(installing(3, "x"), restoring(oldest)),
			scenario(deleting(3), restoring(oldest), installing(4, "y"), stamping(4, 8)),
			scenario(installing(3, "x"), stamping(3, 8), deleting(4), stamping(4, 9)),
			scenario(truncating(3), installing(3, "x"), stamping(3, 8)),
			scenario(truncating(1), truncating(2), truncating(4)),
			scenario(deleting(3), stamping(3, 8), truncating(4)),
		} {
			allOrders(t, versions, 4, 12, changes)
		}
	}
}

// P10.4: a version is pending when the reader begins, and becomes a later one, or is taken back.
func TestLookupWhilePending(t *testing.T) {
	for _, below := range [][]api.Version{nil, {set(2, "b")}, {gone(3), set(2, "b")}, {set(6, "f"), set(3, "c"), gone(1)}} {
		for _, pending := range []api.Version{set(0, "p"), gone(0)} {
			versions := append([]api.Version{pending}, below...)
			second := append(slices.Clone(order[1:len(versions)]), 0)[0]
			for _, changes := range [][]change{
				scenario(stamping(order[0], 7)),
				scenario(stamping(order[0], 7), truncating(4)),
				scenario(stamping(order[0], 7), installing(3, "x"), stamping(3, 8)),
				scenario(restoring(second)),
				scenario(restoring(second), truncating(3), installing(3, "x")),
			} {
				allOrders(t, versions, 4, 10, changes)
			}
		}
	}
}

// P10.4: each floor beside each time that is not less.
func TestLookupAtEachFloor(t *testing.T) {
	everyChain(3, func(versions []api.Version) {
		if !record.Check(versions) || len(versions) > 0 && versions[0].Stamp == 0 {
			return
		}
		for time := range uint64(top + 2) {
			for floor := range time + 1 {
				allOrders(t, versions, time, 5, scenario(truncating(floor), truncating(time)))
			}
		}
	})
}

// reader is a Lookup that is in progress, with what it has to find.
type reader struct {
	lookup *Lookup
	chain  uint64
	time   uint64
	want   string
	ok     bool
}

// play is a writer that makes batches on all chains, and truncates them, among many readers.
type play struct {
	d         *database
	x         uint64 // the state of a sequence of numbers that seem random
	records   uint64 // the number of records that are in use
	published uint64
	floor     uint64
	chain     uint64   // the chain of the next write of a batch, or 0 if there is none
	stamps    bool     // whether the batch is to be stamped, or taken back
	settling  []change // the Stamps or Restores that are left to make, the last one first
	writer    machine
	readers   []*reader
	finished  int
}

// roll returns a number less than n.
func (p *play) roll(n uint64) uint64 {
	p.x = next(p.x)
	return p.x >> 33 % n
}

// lowest returns the lowest time of a reader in progress, or the last published one.
func (p *play) lowest() uint64 {
	time := p.published
	for _, r := range p.readers {
		time = min(time, r.time)
	}
	return time
}

// look begins a reader if there are few, and makes a step of one.
func (p *play) look(t *testing.T) {
	t.Helper()
	if len(p.readers) < 4 {
		r := &reader{chain: p.roll(chains) + 1, time: p.floor + p.roll(p.published-p.floor+1)}
		r.want, r.ok = record.Value(Peek(p.d.l, p.d.m, r.chain), r.time)
		r.lookup = NewLookup(p.d.l, r.chain, r.time)
		p.readers = append(p.readers, r)
	}
	i := int(p.roll(uint64(len(p.readers))))
	r := p.readers[i]
	if !p.d.step(t, r.lookup) {
		return
	}
	p.readers = slices.Delete(p.readers, i, i+1)
	p.finished++
	if s, ok := r.lookup.Value(); s != r.want || ok != r.ok {
		t.Fatalf("P10.4: the value of chain %d at %d is %q, %v, want %q, %v", r.chain, r.time, s, ok, r.want, r.ok)
	}
}

// write makes a step of the writer.
func (p *play) write(t *testing.T) {
	t.Helper()
	if p.writer == nil {
		p.begin()
	}
	if p.d.step(t, p.writer) {
		p.end()
	}
}

// begin makes the machine with which the writer goes on. Nothing is pending while it truncates a chain.
func (p *play) begin() {
	switch {
	case p.chain > 0:
		p.records++
		w := api.Write{Value: string(rune('a' + p.roll(26)))}
		if p.roll(3) == 0 {
			w = api.Write{Delete: true}
		}
		p.writer = NewInstall(p.d.l, p.chain, p.records, w)
	case len(p.settling) > 0:
		c := p.settling[len(p.settling)-1]
		p.settling = p.settling[:len(p.settling)-1]
		p.writer = c.machine(p.d.l, c.chain)
	case p.roll(3) == 0:
		p.floor += p.roll(p.lowest() - p.floor + 1)
		p.writer = NewTruncate(p.d.l, p.roll(chains)+1, p.floor)
	default:
		p.chain, p.stamps = p.roll(chains)+1, p.roll(3) > 0
		p.begin()
	}
}

// end notes what the machine of the writer has done. A batch goes from some chain down to the first. It is published with its last
// stamp, so that no reader at its time has begun before.
func (p *play) end() {
	switch x := p.writer.(type) {
	case *Install:
		c := change{code: restore, chain: p.chain, record: x.Old()}
		if p.stamps {
			c = stamping(p.records, p.published+1)
		}
		p.settling = append(p.settling, c)
		p.chain--
	case *Stamp:
		if len(p.settling) == 0 {
			p.published++
		}
	}
	p.writer = nil
}

// P10.4: batches on several chains, which are stamped or taken back, and Truncates, among many readers at different times.
func TestManyLookups(t *testing.T) {
	const size = 400
	for seed := range uint64(60) {
		d := startWith(t, api.Config{Threads: 1, Snapshots: 1, Nodes: 1, Chains: chains, Records: size, Fanout: 4, Clock: 1})
		for chain := range uint64(chains) {
			d.put(chain+1, nil)
		}
		for r := range uint64(size) {
			d.setN(d.l.Stamp(r+1), 0)
		}
		p := &play{d: d, x: seed}
		for p.records < size {
			if p.roll(5) < 1+seed%4 {
				p.look(t)
			} else {
				p.write(t)
			}
		}
		if p.finished < 50 || p.published < 20 || p.floor < 10 {
			t.Fatalf("the test does too little: %d readers, %d batches, floor %d", p.finished, p.published, p.floor)
		}
	}
}
