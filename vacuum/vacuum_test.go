package vacuum

import (
	"slices"
	"testing"

	"blinktree/alloc"
	"blinktree/api"
	"blinktree/chain"
	"blinktree/latch"
	"blinktree/layout"
	"blinktree/leaflock"
	"blinktree/node"
	"blinktree/page"
	"blinktree/registry"
)

// P19.1, P19.2: the example of the chapter.
func TestExample(t *testing.T) {
	d := of(t, put("a", "1"), put("a", "2"), put("a", ""))
	d.run(t, NewPass(d.l), 3)
	if d.floor() != 3 || len(d.slots()) != 0 {
		t.Errorf("P19.1, P19.2: the floor is %d, and the slots are %v", d.floor(), d.slots())
	}
}

// P2.4: making a pass makes no access and has no effect, and there are no results before the first step.
func TestNew(t *testing.T) {
	d := newDatabase(t, 5)
	cells := d.cells()
	p := NewPass(d.l)
	if p.Answer() != (api.Answer{}) || p.Marks() != 0 {
		t.Errorf("P19.1: before the first step, the answer is %v with Marks %d", p.Answer(), p.Marks())
	}
	if !slices.Equal(d.cells(), cells) {
		t.Error("P2.4: making a pass changes a cell")
	}
}

// cells returns all cells.
func (d *database) cells() []api.Cell {
	list := make([]api.Cell, d.m.Cells())
	for i := range list {
		list[i] = d.m.Peek(i)
	}
	return list
}

// witness sees what a pass does, by the cells that change.
type witness struct {
	*database
	floor uint64
	words []uint64 // the latch of node n has the index n - 1
	nexts []uint64 // the same for the Next of the records
	list  []event
}

// newWitness returns a witness of what happens to a database.
func newWitness(d *database) *witness {
	w := &witness{database: d, floor: d.floor()}
	for id := uint64(1); id <= d.m.Peek(d.l.Nodes()).N; id++ {
		w.words = append(w.words, d.word(id))
	}
	for r := uint64(1); r <= d.m.Peek(d.l.Records()).N; r++ {
		w.nexts = append(w.nexts, d.m.Peek(d.l.Next(r)).N)
	}
	return w
}

// look notes what has happened since the last look.
func (w *witness) look() {
	if n := w.database.floor(); n != w.floor {
		w.floor = n
		w.list = append(w.list, event{raiseFloor, n})
	}
	for i, before := range w.words {
		after := w.word(uint64(i) + 1)
		w.words[i] = after
		switch {
		case after == before || latch.Changing(after):
		case latch.Changing(before):
			w.list = append(w.list, event{changeLeaf, uint64(i) + 1})
		case latch.Locked(after):
			w.list = append(w.list, event{lockLeaf, uint64(i) + 1})
		default:
			w.list = append(w.list, event{releaseLeaf, uint64(i) + 1})
		}
	}
	for i, before := range w.nexts {
		if after := w.m.Peek(w.l.Next(uint64(i) + 1)).N; after != before {
			w.nexts[i] = after
			w.list = append(w.list, event{cutRecord, uint64(i) + 1})
		}
	}
}

// expectSame reports an error if the memory of another database is not the same, apart from cells that have no meaning.
func (d *database) expectSame(t *testing.T, want *database) {
	t.Helper()
	first := d.l.Latch(1)
	end := first + d.l.Config().Nodes*(d.l.Config().Fanout+4)
	for i := range d.m.Cells() {
		if (i < first || i >= end) && d.m.Peek(i) != want.m.Peek(i) {
			t.Fatalf("P19.2: cell %d is %#v, want %#v", i, d.m.Peek(i), want.m.Peek(i))
		}
	}
	for id := range uint64(d.l.Config().Nodes + 1) {
		p, q := node.Peek(d.l, d.m, id), node.Peek(want.l, want.m, id)
		slots := slices.Equal(p.Slots, q.Slots)
		if p.Slots, q.Slots = nil, nil; !slots || p.High != q.High || p.Last != q.Last || p.Right != q.Right || p.Level != q.Level {
			t.Fatalf("P19.2: node %d is %#v, want %#v", id, node.Peek(d.l, d.m, id), node.Peek(want.l, want.m, id))
		}
		if d.word(id) != want.word(id) {
			t.Fatalf("P19.2: the word of node %d is %d, want %d", id, d.word(id), want.word(id))
		}
	}
}

// P19.1, P19.2: passes on generated databases do what the chapter says, in its order, and nothing else.
func TestPasses(t *testing.T) {
	counts := map[string]int{}
	for seed := range 400 {
		d := newDatabase(t, seed)
		want, w := d.copy(), d.watermark()
		events := want.purge(w)
		saw := newWitness(d)
		p := NewPass(d.l)
		for finished := false; !finished; saw.look() {
			finished = d.step(t, p)
			if len(saw.list) > len(events) {
				t.Fatalf("P19.2: a pass does %v, want %v", saw.list, events)
			}
		}
		d.expectFinished(t, p, w)
		if !slices.Equal(saw.list, events) {
			t.Fatalf("P19.2: a pass does %v, want %v", saw.list, events)
		}
		d.expectSame(t, want)
		for _, e := range events {
			counts[e.what]++
		}
	}
	for _, what := range []string{raiseFloor, lockLeaf, cutRecord, changeLeaf, releaseLeaf} {
		if counts[what] < 200 {
			t.Errorf("the test does too little: it %s %d times", what, counts[what])
		}
	}
}

// P19.1, P19.2: a pass makes the accesses of the machines that the chapter names, and no others.
func TestMachines(t *testing.T) {
	for seed := range 100 {
		d := newDatabase(t, seed)
		want, w, accesses := d.copy(), d.watermark(), d.m.Accesses()
		want.pass(t)
		d.run(t, NewPass(d.l), w)
		if d.m.Accesses() != want.m.Accesses() {
			t.Fatalf("P19.2: a pass makes %d accesses, want %d", d.m.Accesses()-accesses, want.m.Accesses()-accesses)
		}
		if !slices.Equal(d.cells(), want.cells()) {
			t.Fatal("P19.2: after a pass, the cells are not those after the machines that the chapter names")
		}
	}
}

// pass runs the machines that the chapter names, one after the other.
func (d *database) pass(t *testing.T) {
	t.Helper()
	w := registry.NewWatermark(d.l)
	d.finish(t, w)
	d.finish(t, alloc.NewRaise(d.l.Floor(), w.Time()))
	k := leaflock.NewLock(d.l, "", leafLevel)
	d.finish(t, k)
	for h := k.Held(); ; {
		var dead []string
		for _, s := range h.Page.Slots {
			cut := chain.NewTruncate(d.l, s.Ref, w.Time())
			if d.finish(t, cut); cut.Dead() {
				dead = append(dead, s.Key)
			}
		}
		if len(dead) > 0 {
			x := node.NewWrite(d.l, h, page.Remove(h.Page, dead))
			d.finish(t, x)
			h = x.Held()
		}
		d.finish(t, latch.NewRelease(d.l.Latch(h.ID), h.Word))
		if h.Page.Right == 0 {
			return
		}
		a := latch.NewAcquire(d.l.Latch(h.Page.Right))
		d.finish(t, a)
		o := node.NewOwn(d.l, h.Page.Right, a.Word())
		d.finish(t, o)
		h = o.Held()
	}
}

// P19.2: the first leaf is the one that covers the empty key, even if it covers no other one.
func TestFirstLeaf(t *testing.T) {
	d := of(t, put("", "1", "a", "1", "b", "1", "c", "1", "d", "1"), put("", "", "a", ""), put("\x00", "1"), put("\x00", ""))
	slots := d.slots()
	d.write(1, leafLevel, slots[:1])
	d.write(2, leafLevel, slots[1:4])
	d.m.Poke(d.l.High(1), api.Cell{K: "\x00"})
	d.run(t, NewPass(d.l), 4)
	if n := len(node.Peek(d.l, d.m, 1).Slots); n != 0 {
		t.Errorf("P19.2: the first leaf has %d slots", n)
	}
}

// P19.3: after each step of a pass, the entries at the times from the watermark upwards are what they must be, later ones included; and
// after the pass, nothing is left that it has to remove.
func TestValues(t *testing.T) {
	cuts, removals := 0, 0
	for seed := range 60 {
		d, g := newDatabase(t, seed), newDice(seed)
		w, versions, slots := d.watermark(), d.versions(), len(d.slots())
		p := NewPass(d.l)
		for finished := false; !finished; {
			finished = d.step(t, p)
			if d.changing() {
				continue
			}
			d.expectContents(t, w)
			d.expectContents(t, g.between(w, d.published()+2))
		}
		for time := w; time <= d.published()+2; time++ {
			d.expectContents(t, time)
		}
		d.expectClean(t, w)
		if d.versions() < versions {
			cuts++
		}
		if len(d.slots()) < slots {
			removals++
		}
	}
	if cuts < 20 || removals < 20 {
		t.Errorf("the test does too little: %d passes remove versions, and %d slots", cuts, removals)
	}
}

// versions returns the number of the versions that are in the tree.
func (d *database) versions() int {
	n := 0
	for _, s := range d.slots() {
		n += len(d.records(s.Ref))
	}
	return n
}

// changing reports whether a leaf is being changed.
func (d *database) changing() bool {
	return slices.ContainsFunc(d.leaves(), func(id uint64) bool { return latch.Changing(d.word(id)) })
}

// P19.3: what is left of the versions of a key, with each watermark, and whether it has a slot.
func TestVersions(t *testing.T) {
	for _, x := range []struct {
		watermark uint64
		a, b, c   []uint64 // the stamps of the versions
	}{
		{0, []uint64{5, 3, 1}, []uint64{4, 2}, []uint64{4, 3}},
		{1, []uint64{5, 3, 1}, []uint64{4, 2}, []uint64{4, 3}},
		{2, []uint64{5, 3, 1}, []uint64{4, 2}, []uint64{4, 3}},
		{3, []uint64{5, 3}, []uint64{4, 2}, []uint64{4, 3}},
		{4, []uint64{5, 3}, nil, []uint64{4}},
		{5, []uint64{5}, nil, []uint64{4}},
	} {
		d := of(t, put("a", "1"), put("b", "1"), put("a", "", "c", "1"), put("b", "", "c", "2"), put("a", "2"))
		d.fail(t, put("d", "1"))
		d.open(0, 0, x.watermark)
		d.run(t, NewPass(d.l), x.watermark)
		want := map[string][]uint64{"a": x.a, "b": x.b, "c": x.c}
		for _, s := range d.slots() {
			var stamps []uint64
			for _, v := range chain.Peek(d.l, d.m, s.Ref) {
				stamps = append(stamps, v.Stamp)
			}
			if len(stamps) == 0 || !slices.Equal(stamps, want[s.Key]) {
				t.Errorf("P19.3: with the watermark %d, %q has the stamps %v, want %v", x.watermark, s.Key, stamps, want[s.Key])
			}
			delete(want, s.Key)
		}
		for key, stamps := range want {
			if stamps != nil {
				t.Errorf("P19.3: with the watermark %d, %q has no slot", x.watermark, key)
			}
		}
	}
}

// P19.2, P19.3: a second pass at the same watermark changes nothing any more, and batches can be applied after it. In the end, all keys are
// deleted, and no slot is left.
func TestAgain(t *testing.T) {
	for seed := range 60 {
		d, g := newDatabase(t, seed), newDice(seed)
		w := d.watermark()
		d.run(t, NewPass(d.l), w)
		cells := d.cells()
		d.run(t, NewPass(d.l), w)
		if !slices.Equal(d.cells(), cells) {
			t.Fatal("P19.2: a second pass changes a cell")
		}
		for range 5 {
			d.apply(t, g.batch(universe(), 12))
			d.run(t, NewPass(d.l), d.watermark())
			d.expectContents(t, d.published())
		}
		for _, e := range d.entries[len(d.entries)-1] {
			d.apply(t, put(e.Key, ""))
		}
		for thread := range 2 {
			for j := range 2 {
				d.set(d.l.Snapshot(thread, j), 0)
			}
		}
		d.run(t, NewPass(d.l), d.published())
		if len(d.slots()) != 0 || len(d.leaves()) == 0 {
			t.Fatalf("P19.3: all keys are deleted, but the slots are %v", d.slots())
		}
	}
}

// P19.1: the watermark with each snapshot of several configurations, which is open at a time or being opened.
func TestSnapshots(t *testing.T) {
	for _, c := range []api.Config{small(), large(api.MinFanout), {
		Threads: api.MaxThreads, Snapshots: api.MaxSnapshots, Nodes: 1, Chains: 1, Records: 1, Fanout: api.MaxFanout, Clock: api.MaxClock,
	}} {
		l, m, err := layout.Start(c)
		if err != api.OK {
			t.Fatal(err)
		}
		for k := range c.Threads * c.Snapshots {
			for time := range uint64(8) {
				d := &database{l: l, m: m.Copy(), entries: make([][]api.Entry, 8)}
				d.set(l.Published(), 5)
				d.open(k/c.Snapshots, k%c.Snapshots, time)
				d.run(t, NewPass(l), min(time, 5))
				if d.floor() != min(time, 5) {
					t.Errorf("P19.1: with a snapshot at %d, the floor is %d", time, d.floor())
				}
			}
		}
	}
}
