package cursor

import (
	"iter"
	"slices"
	"testing"

	"blinktree/api"
	"blinktree/chain"
	"blinktree/descent"
	"blinktree/latch"
	"blinktree/layout"
	"blinktree/node"
)

// twin makes the accesses that a move has to make, by the machines that the chapter names.
type twin struct {
	l      layout.Layout
	x      task
	run    func(m machine)         // runs a machine
	access func() (struct{}, bool) // makes the next access, and returns false if none was left
	visit  func(id uint64)         // is called for each leaf
}

// newTwin returns the twin of a move that is not still. Its visit is called for each leaf to which it comes.
func (d *database) newTwin(x task, visit func(id uint64)) *twin {
	w := &twin{l: d.l, x: x, visit: visit}
	accesses := func(yield func(struct{}) bool) {
		w.run = func(m machine) {
			for finished := false; !finished; yield(struct{}{}) {
				finished = m.Step(d.m)
			}
		}
		switch {
		case x.move == api.MoveSeek:
			w.goForwards(x.key)
		case x.move == api.MoveFirst || x.move == api.MoveNext && x.p.Place == Before:
			w.goForwards("")
		case x.move == api.MoveNext:
			w.goForwards(x.p.Key + "\x00")
		default:
			w.goBackwards(x.p.Key, x.move == api.MoveLast || x.p.Place == After)
		}
	}
	w.access, _ = iter.Pull(iter.Seq[struct{}](accesses))
	return w
}

// goForwards does what P20.3 says of a move forwards.
func (w *twin) goForwards(key string) {
	f := descent.NewFind(w.l, key, 0)
	w.run(f)
	for id, p := f.Node(); ; {
		w.visit(id)
		for _, s := range p.Slots {
			if s.Key >= key && w.lookUp(s) {
				return
			}
		}
		if p.Right == 0 {
			return
		}
		r := node.NewRead(w.l, p.Right)
		w.run(r)
		id, p = p.Right, r.Page()
	}
}

// goBackwards does what P20.3 says of a move backwards.
func (w *twin) goBackwards(key string, last bool) {
	for last || key != "" {
		b := descent.NewBelow(w.l, key, last)
		w.run(b)
		id, p, low := b.Node()
		w.visit(id)
		for i := len(p.Slots) - 1; i >= 0; i-- {
			if s := p.Slots[i]; (last || s.Key < key) && w.lookUp(s) {
				return
			}
		}
		key, last = low, false
	}
}

// lookUp looks a slot up, and reports whether it has a value.
func (w *twin) lookUp(s api.Slot) bool {
	k := chain.NewLookup(w.l, s.Ref, w.x.time)
	w.run(k)
	_, ok := k.Value()
	return ok
}

// follow makes a move and the accesses of its twin, one of each in turn, which must be as many, and calls between before each of these
// turns.
func (d *database) follow(t *testing.T, x task, visit func(id uint64), between func(n int)) int {
	t.Helper()
	v, w := x.start(d), d.newTwin(x, visit)
	for n := range patience {
		between(n)
		finished := d.step(t, v, false)
		if _, more := w.access(); !more {
			t.Fatalf("P20.3: %v makes more than %d accesses", x, n)
		}
		if finished {
			if _, more := w.access(); more {
				t.Fatalf("P20.3: %v makes only %d accesses", x, n+1)
			}
			d.expectFinished(t, "P20.1, P20.3", x, v)
			return n + 1
		}
	}
	t.Fatalf("P20.3: %v does not finish", x)
	return 0
}

// nothing does nothing.
func nothing(int) {}

// P20.3: a move makes the accesses of the machines that the chapter names, and no others.
func TestAccesses(t *testing.T) {
	leaves, empty, most := 0, 0, 0
	for seed := range 60 {
		g, d := newDice(seed), newDatabase(t, seed)
		time := g.between(d.floor(), d.published())
		for _, x := range g.tasks(time) {
			if x.still() {
				continue
			}
			n := 0
			d.follow(t, x, func(id uint64) {
				if n++; len(node.Peek(d.l, d.m, id).Slots) == 0 {
					empty++
				}
			}, nothing)
			leaves += n
			most = max(most, n)
		}
	}
	if leaves < 30000 || empty < 500 || most < 8 {
		t.Errorf("the test does too little: %d leaves, %d without slots, up to %d for a move", leaves, empty, most)
	}
}

// P20.3: a move makes these accesses, whatever changes between them: batches with splits, batches that fail, passes of a vacuum, and
// separators that are not posted.
func TestAccessesAmongChanges(t *testing.T) {
	changes := 0
	for seed := range 300 {
		g, start := newDice(seed), newDatabase(t, seed%100)
		time := g.between(start.floor(), start.published())
		for _, x := range shuffled(g, g.tasks(time))[:20] {
			if x.still() {
				continue
			}
			d := start.copy()
			d.open(0, 0, time)
			d.follow(t, x, func(uint64) {}, func(n int) {
				if n < 600 && g.roll(6) == 0 {
					d.change(t, g)
					changes++
				}
			})
		}
	}
	if changes < 5000 {
		t.Errorf("the test does too little: %d changes", changes)
	}
}

// change changes the database in one way or another.
func (d *database) change(t *testing.T, g *dice) {
	t.Helper()
	switch n := g.roll(20); {
	case n < 3:
		d.vacuum(t, d.published())
	case n < 6:
		d.fail(t, g.batch(universe(), 1+g.roll(3)))
	case n == 6:
		d.unpost(g)
	default:
		d.apply(t, g.batch(universe(), 1+g.roll(6)))
	}
}

// path returns the leaves to which a move comes, in their order, without those that it only reads on its way to one, and the number of its
// steps.
func (d *database) path(t *testing.T, x task) ([]uint64, int) {
	t.Helper()
	var list []uint64
	n := d.follow(t, x, func(id uint64) { list = append(list, id) }, nothing)
	return list, n
}

// P20.3: a move forwards comes to one leaf after the other from the one that covers the first possible key, and a move backwards from the
// one with the greatest keys that count, up to the one with the entry.
func TestLeaves(t *testing.T) {
	for seed := range 60 {
		g, d := newDice(seed), newDatabase(t, seed)
		all := d.leaves()
		time := g.between(d.floor(), d.published())
		for _, x := range shuffled(g, g.tasks(time))[:100] {
			if x.still() {
				continue
			}
			path, _ := d.path(t, x)
			list := slices.Clone(all)
			_, p := x.wanted(d.at(time))
			if x.move == api.MovePrev || x.move == api.MoveLast || slices.Contains(otherMoves, x.move) {
				slices.Reverse(list)
			}
			list = list[slices.Index(list, path[0]):]
			if !slices.Equal(path, list[:len(path)]) || p.Place != At && len(path) < len(list) || p.Place == At && d.slotOf(path, p.Key) != len(path)-1 {
				t.Fatalf("P20.3: %v to %v comes to the leaves %v of %v", x, p, path, all)
			}
		}
	}
}

// slotOf returns the index of the first of these leaves that has a slot with a key.
func (d *database) slotOf(leaves []uint64, key string) int {
	return slices.IndexFunc(leaves, func(id uint64) bool {
		return slices.ContainsFunc(node.Peek(d.l, d.m, id).Slots, func(s api.Slot) bool { return s.Key == key })
	})
}

// P20.3: the first leaf may cover the empty key alone, so that the low key of the second one is the least key but one.
func TestFirstLeaf(t *testing.T) {
	d := of(t, put("", "1", "a", "1", "b", "1", "c", "1", "d", "1"), put("a", "", "b", "", "c", "", "d", ""))
	leaves := d.leaves()
	first, second := node.Peek(d.l, d.m, leaves[0]).Slots, node.Peek(d.l, d.m, leaves[1]).Slots
	d.write(leaves[0], leafLevel, first[:1])
	d.write(leaves[1], leafLevel, append(first[1:], second...))
	d.m.Poke(d.l.High(leaves[0]), api.Cell{K: "\x00"})
	d.write(d.m.Peek(d.l.Root()).N, 1, []api.Slot{{Key: "", Ref: leaves[0]}, {Key: "\x00", Ref: leaves[1]}})
	for _, time := range []uint64{1, 2} {
		for _, x := range newDice(1).tasks(time) {
			d.expect(t, "P20.3", x)
		}
	}
}

// P20.3: after each number of steps of a move, a leaf is being changed. A move that has still to read it waits, and goes on when it is not
// changing any more; a lock does not matter to it.
func TestChangingLeaves(t *testing.T) {
	waits, passes := 0, 0
	for seed := range 60 {
		g, d := newDice(seed), newDatabase(t, seed)
		time := g.between(d.floor(), d.published())
		for _, x := range shuffled(g, g.tasks(time))[:8] {
			if x.still() {
				continue
			}
			path, length := d.path(t, x)
			for _, id := range []uint64{oneOf(g, path), oneOf(g, d.leaves())} {
				cell := d.l.Latch(id)
				word := d.m.Peek(cell).N
				changing := latch.Begin(latch.Lock(word))
				for k := range length {
					v := x.start(d)
					d.steps(t, v, k)
					d.set(cell, changing)
					finished := d.steps(t, v, 2*length)
					d.set(cell, latch.Lock(latch.End(changing)))
					if finished {
						passes++
						d.expectFinished(t, "P20.3", x, v)
					} else {
						waits++
						d.run(t, "P20.3", x, v)
					}
					d.set(cell, word)
				}
				k := g.roll(length)
				d.follow(t, x, func(uint64) {}, func(n int) {
					switch n {
					case k:
						d.set(cell, changing)
					case k + length:
						d.set(cell, latch.Lock(latch.End(changing)))
					}
				})
				d.set(cell, word)
			}
		}
	}
	if waits < 3000 || passes < 3000 {
		t.Errorf("the test does too little: %d moves wait, and %d do not", waits, passes)
	}
}
