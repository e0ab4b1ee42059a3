package commit

import (
	"slices"
	"testing"

	"blinktree/api"
	"blinktree/batch"
	"blinktree/latch"
	"blinktree/node"
)

// length returns how many steps an Apply of a sample makes, and in which of them, counted from 1, the batch takes effect.
func (x sample) length(t *testing.T) (steps, effect int) {
	t.Helper()
	d := newDatabase(t, x.s)
	a := NewApply(d.l, x.b)
	d.each(t, a, func() {
		if steps++; a.Marks() == 1 && effect == 0 {
			effect = steps
		}
	})
	return steps, effect
}

// counter returns the address of the counter that an event increases.
func (d *database) counter(what string) int {
	switch what {
	case takeNode:
		return d.l.Nodes()
	case takeChain:
		return d.l.Chains()
	case takeRecord:
		return d.l.Records()
	}
	return d.l.Allocated()
}

// P16.3, P16.4: the step that finds that something is missing is the one in which the batch takes effect: if one more is left right before
// it, the batch does not fail in it, and if one more is left right after it, the batch has failed all the same.
func TestFailureStep(t *testing.T) {
	samples(t, 800, func(x sample) {
		after := x.s.copy()
		want := after.apply(x.b)
		if want.missing == "" {
			return
		}
		_, effect := x.length(t)
		d := newDatabase(t, x.s)
		a := NewApply(d.l, x.b)
		d.steps(t, a, effect-1)
		i := d.counter(want.missing)
		n := d.m.Peek(i).N
		d.set(i, n-1)
		if d.step(t, a); a.Marks() != 0 {
			t.Fatalf("P16.3: the batch has failed before the step that %s", want.missing)
		}

		d = newDatabase(t, x.s)
		a = NewApply(d.l, x.b)
		if !d.steps(t, a, effect) {
			d.set(i, n-1)
			finished := d.step(t, a)
			d.set(i, n)
			if !finished && !d.steps(t, a, patience) {
				t.Fatal("P16.3: an Apply does not finish")
			}
		}
		d.expectFinished(t, a, want.answer)
		d.expect(t, "P16.3: one more is left after the failure", after)
	})
}

// history returns the entries at each time up to the present.
func (s *state) history(t *testing.T) [][]api.Entry {
	t.Helper()
	d := newDatabase(t, s)
	var list [][]api.Entry
	for time := range s.time + 1 {
		list = append(list, d.contents(time))
	}
	return list
}

// P16.2, P16.3, P16.5: after each step, the entries at each time that has been published are those that the batches up to it have made, and
// so nothing of a batch is visible before its last step but the releases and Posts, or ever if it fails.
func TestVisible(t *testing.T) {
	samples(t, 300, func(x sample) {
		entries := x.s.history(t)
		entries = append(entries, batch.Apply(entries[x.s.time], x.b))
		d := newDatabase(t, x.s)
		d.each(t, NewApply(d.l, x.b), func() {
			if d.changing() {
				return
			}
			for time := d.published() - min(d.published(), 3); time <= d.published(); time++ {
				d.expectContents(t, "P16.5", time, entries[time]...)
			}
		})
		for time := range d.published() {
			d.expectContents(t, "P16.5", time, entries[time]...)
		}
	})
}

// P16.5: readers that make their steps beside an Apply, some after each of its steps, find the entries at the time that was published last
// when they began. Only while a node is changing, they wait.
func TestReadersBeside(t *testing.T) {
	waits := 0
	samples(t, 300, func(x sample) {
		g := newDice(int(x.s.time))
		entries := x.s.history(t)
		entries = append(entries, batch.Apply(entries[x.s.time], x.b))
		d := newDatabase(t, x.s)
		var list []*reader
		d.each(t, NewApply(d.l, x.b), func() {
			for len(list) < 5 {
				list = append(list, d.read(x.key(g)))
			}
			for range g.roll(40) {
				list[g.roll(len(list))].Step(d.m)
			}
			if last := list[4]; !d.changing() && !d.finish(last) {
				t.Fatal("P16.5: a reader waits, but nothing is changing")
			} else if !last.done {
				waits++
			}
			for _, r := range list {
				if r.done {
					r.expect(t, entries[r.time])
				}
			}
			list = slices.DeleteFunc(list, func(r *reader) bool { return r.done })
		})
	})
	if waits < 100 {
		t.Errorf("the test does too little: %d readers wait", waits)
	}
}

// key returns a key, often one of the batch.
func (x sample) key(g *dice) string {
	if len(x.b) > 0 && g.roll(4) > 0 {
		return x.b[g.roll(len(x.b))].Key
	}
	all := universe()
	return all[g.roll(len(all))]
}

// finish makes the steps of a machine, and reports whether it has finished.
func (d *database) finish(x machine) bool {
	for range patience {
		if x.Step(d.m) {
			return true
		}
	}
	return false
}

// latches returns the addresses of latches that somebody else may lock: Grow, and those of nodes of a state, among them all that a batch
// changes or locks.
func (d *database) latches(s *state, want *trial) []int {
	list := []int{d.l.Grow()}
	others := 0
	for _, h := range s.nodes {
		if h.Word == want.at(h.ID).Word && !slices.Contains(want.locked, h.ID) {
			others++
			if others != 3 {
				continue
			}
		}
		list = append(list, d.l.Latch(h.ID))
	}
	return list
}

// owner returns the number of the node to which a latch belongs, or 0 for Grow.
func (d *database) owner(cell int) uint64 {
	if cell == d.l.Grow() {
		return 0
	}
	return uint64((cell-d.l.Latch(1))/(d.l.Config().Fanout+4)) + 1
}

// rank returns how many leaves are to the left of a node, or -1 if it is not a leaf.
func (d *database) rank(id uint64) int {
	p := d.m.Peek(d.l.Root()).N
	for node.Peek(d.l, d.m, p).Level > leafLevel {
		p = node.Peek(d.l, d.m, p).Slots[0].Ref
	}
	for rank := 0; p != 0; rank++ {
		if p == id {
			return rank
		}
		p = node.Peek(d.l, d.m, p).Right
	}
	return -1
}

// expectLocked reports an error if a batch that waits for the latch in a cell has locked something else than leaves to the left of it.
func (d *database) expectLocked(t *testing.T, cell int) {
	t.Helper()
	rank := d.rank(d.owner(cell))
	for id := uint64(1); id <= d.used(); id++ {
		if i := d.l.Latch(id); i != cell && latch.Locked(d.m.Peek(i).N) && (d.rank(id) < 0 || d.rank(id) >= rank) {
			t.Fatalf("P16.1, P16.2: a batch waits for node %d, and has locked node %d", d.owner(cell), id)
		}
	}
	if cell != d.l.Grow() && latch.Locked(d.m.Peek(d.l.Grow()).N) {
		t.Fatalf("P16.2: a batch waits for node %d, and has locked Grow", d.owner(cell))
	}
}

// stepsBehind makes some steps of an Apply while somebody else has locked the latch in a cell, and reports whether it has finished.
func (d *database) stepsBehind(t *testing.T, a *Apply, n, cell int) bool {
	t.Helper()
	word := d.m.Peek(cell).N
	d.set(cell, latch.Lock(word))
	finished := d.steps(t, a, n)
	if d.m.Peek(cell).N != latch.Lock(word) {
		t.Fatalf("P16.1: a batch does not respect the latch in cell %d", cell)
	}
	if !finished {
		d.expectLocked(t, cell)
	}
	d.set(cell, word)
	return finished
}

// P16.1, P16.2, P16.3: after each number of steps, somebody else locks a latch that is not locked. If the batch needs it, it waits, and has
// only leaves to the left of it locked. When the latch is released, the batch goes on, and does the same as without the wait.
func TestWaits(t *testing.T) {
	waits := map[string]int{}
	n := 0
	samples(t, 60, func(x sample) {
		after := x.s.copy()
		want := after.apply(x.b)
		length, _ := x.length(t)
		start := newDatabase(t, x.s)
		for _, i := range start.latches(x.s, want) {
			for steps := n % 7; steps < length; steps += 7 {
				d := &database{start.l, start.m.Copy()}
				a := NewApply(d.l, x.b)
				d.steps(t, a, steps)
				if latch.Locked(d.m.Peek(i).N) {
					continue
				}
				if !d.stepsBehind(t, a, length+20, i) {
					waits[d.name(i)]++
					d.run(t, a, want.answer)
				}
				d.expectFinished(t, a, want.answer)
				if n++; n%5 == 0 {
					d.expect(t, "P16.1, P16.2, P16.3: after a wait", after)
				}
			}
		}
	})
	for _, name := range []string{"Grow", "level 0", "level 1", "level 2"} {
		if waits[name] < 20 {
			t.Errorf("the test does too little: %d batches wait for %s", waits[name], name)
		}
	}
}

// name says what the latch in a cell protects.
func (d *database) name(i int) string {
	if i == d.l.Grow() {
		return "Grow"
	}
	return "level " + string(rune('0'+node.Peek(d.l, d.m, d.owner(i)).Level))
}

// P16.2, P16.5: a batch whose timestamp is not the next one waits until the smaller ones have been published. All its versions are stamped
// by then, all its leaves are locked, and it has not taken effect.
func TestWaitsForItsTurn(t *testing.T) {
	samples(t, 200, func(x sample) {
		length, _ := x.length(t)
		for ahead := range uint64(3) {
			s := x.s.copy()
			if s.limits.clock < s.time+ahead+1 {
				return
			}
			d := newDatabase(t, s)
			d.set(d.l.Allocated(), s.time+ahead)
			entries := d.contents(s.time)
			s.time += ahead
			want := s.apply(x.b)
			a := NewApply(d.l, x.b)
			for published := s.time - ahead - 1; want.missing == "" && published < want.answer.Time-1; published++ {
				d.set(d.l.Published(), published)
				if d.steps(t, a, length+20) || a.Marks() != 0 || d.published() != published {
					t.Fatalf("P16.2: the batch does not wait: %v", a.Answer())
				}
				d.expectReady(t, want)
				d.expectContents(t, "P16.5", published, entries...)
			}
			if want.missing == "" {
				d.set(d.l.Published(), want.answer.Time-1)
			}
			d.run(t, a, want.answer)
			if want.missing != "" {
				d.set(d.l.Published(), s.time)
			}
			d.expect(t, "P16.2", s)
		}
	})
}

// expectReady reports an error if a batch that waits for its turn has not locked its leaves, or has not stamped its versions.
func (d *database) expectReady(t *testing.T, want *trial) {
	t.Helper()
	for id := uint64(1); id <= d.used(); id++ {
		if latch.Locked(d.word(id)) != slices.Contains(want.locked, id) {
			t.Fatalf("P16.2: while the batch waits for its turn, node %d has the word %d", id, d.word(id))
		}
	}
	for _, v := range want.installed {
		if d.m.Peek(d.l.Stamp(v.record)).N != want.answer.Time {
			t.Fatalf("P16.5: the batch waits for its turn, but record %d has not been stamped", v.record)
		}
	}
}
