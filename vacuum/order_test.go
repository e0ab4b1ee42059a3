package vacuum

import (
	"testing"

	"blinktree/api"
	"blinktree/latch"
	"blinktree/registry"
)

// P19.1: Published and the snapshots change after each number of steps. The watermark is what registry.Watermark determines with the same
// steps, and later changes do not matter.
func TestWatermarkChanges(t *testing.T) {
	differ := 0
	for seed := range 300 {
		start, g := newDatabase(t, seed%50), newDice(seed)
		for k := range 8 {
			d := start.copy()
			p, twin := NewPass(d.l), registry.NewWatermark(d.l)
			first := d.watermark()
			for n := range 8 {
				if n == k {
					d.set(d.l.Published(), g.between(d.published(), d.published()+2))
					d.set(d.l.Snapshot(g.roll(2), g.roll(2)), g.between(0, d.published()+1))
				}
				twin.Step(d.m)
				d.step(t, p)
			}
			if d.run(t, p, twin.Time()); first != twin.Time() {
				differ++
			}
		}
	}
	if differ < 100 {
		t.Errorf("the test does too little: %d watermarks are others after a change", differ)
	}
}

// P19.1: the floor is another one from the beginning, or becomes another one after some steps. The pass takes effect in the last step of
// alloc.Raise, which is a load of a floor that is large enough, or else a Swap of the floor that was loaded.
func TestFloorChanges(t *testing.T) {
	const watermarkSteps, w = 2, 3
	again := 0
	for _, before := range []uint64{0, 1, 2, 3, 4, 9} {
		for _, after := range []uint64{0, 1, 2, 3, 4, 9} {
			for k := range 10 {
				d := of(t, put("a", "1"), put("b", "1"), put("c", "1"))
				d.set(d.l.Floor(), before)
				p := NewPass(d.l)
				loaded, effect := -1, -1
				for n := range 10 {
					if n == k {
						d.set(d.l.Floor(), after)
					}
					now := int(d.floor())
					switch {
					case n < watermarkSteps || effect >= 0:
					case loaded < 0 && now >= w || now == loaded:
						effect, now = n, max(now, w)
					case loaded < 0:
						loaded = now
					default:
						loaded = -1
						again++
					}
					d.step(t, p)
					if (p.Marks() == 1) != (effect >= 0) || d.floor() != uint64(now) {
						t.Fatalf("P19.1: the floor is %d, and %d from step %d on; after step %d, Marks is %d and the floor %d",
							before, after, k, n, p.Marks(), d.floor())
					}
				}
				d.run(t, p, w)
			}
		}
	}
	if again < 5 {
		t.Errorf("the test does too little: %d Swaps are in vain", again)
	}
}

// P19.1, P19.2: a pass truncates at its watermark, although the floor is greater, as it is after the pass of somebody else.
func TestGreaterFloor(t *testing.T) {
	for seed := range 100 {
		d := newDatabase(t, seed)
		w := d.watermark()
		want := d.copy()
		want.purge(w)
		want.set(d.l.Floor(), d.published()+1)
		for k := range 9 {
			x := d.copy()
			p := NewPass(x.l)
			x.steps(t, p, k)
			x.set(x.l.Floor(), x.published()+1)
			x.run(t, p, w)
			x.expectSame(t, want)
		}
	}
}

// P19.1, P19.2: nothing but the watermark that has been determined matters to the rest of a pass.
func TestLaterChanges(t *testing.T) {
	for seed := range 60 {
		d, g := newDatabase(t, seed), newDice(seed)
		w := d.watermark()
		want := d.copy()
		want.purge(w)
		p := NewPass(d.l)
		d.steps(t, p, 5)
		for finished := false; !finished; finished = d.step(t, p) {
			d.set(d.l.Published(), d.published()+uint64(g.roll(2)))
			d.set(d.l.Snapshot(g.roll(2), g.roll(2)), g.between(0, d.published()+1))
		}
		for _, i := range []int{d.l.Published(), d.l.Snapshot(0, 0), d.l.Snapshot(0, 1), d.l.Snapshot(1, 0), d.l.Snapshot(1, 1)} {
			want.m.Poke(i, d.m.Peek(i))
		}
		d.expectFinished(t, p, w)
		d.expectSame(t, want)
	}
}

// locked returns how many latches of leaves are locked.
func (d *database) locked() int {
	n := 0
	for _, id := range d.leaves() {
		if latch.Locked(d.word(id)) {
			n++
		}
	}
	return n
}

// P19.2: after each number of steps of a pass, somebody else locks a leaf. If the pass has not finished with it yet, it waits without a
// locked latch, and goes on when the leaf is released.
func TestLockedLeaves(t *testing.T) {
	waits, passes := 0, 0
	for seed := range 60 {
		start, g := newDatabase(t, seed), newDice(seed)
		w, want := start.watermark(), start.copy()
		want.purge(w)
		alone := start.copy()
		length := alone.run(t, NewPass(alone.l), w)
		for k := range length {
			d := start.copy()
			leaves := d.leaves()
			i := d.l.Latch(leaves[g.roll(len(leaves))])
			p := NewPass(d.l)
			d.steps(t, p, k)
			if latch.Locked(d.m.Peek(i).N) {
				continue
			}
			d.set(i, latch.Lock(d.m.Peek(i).N))
			finished := d.steps(t, p, 2*length)
			if n := d.locked(); n != 1 {
				t.Fatalf("P19.2: a pass waits, or has finished, with %d locked leaves", n-1)
			}
			d.set(i, latch.Unlock(d.m.Peek(i).N))
			if finished {
				passes++
			} else {
				waits++
				d.run(t, p, w)
			}
			d.expectFinished(t, p, w)
			d.expectSame(t, want)
		}
	}
	if waits < 1000 || passes < 1000 {
		t.Errorf("the test does too little: %d passes wait, and %d do not", waits, passes)
	}
}

// P19.2: after each number of steps of a pass, and while it waits for a leaf, others apply a batch. The pass goes on in the leaves as they
// are by then, the new ones included, and it changes no value.
func TestBatchesBetween(t *testing.T) {
	splits := 0
	for seed := range 60 {
		start, g := newDatabase(t, seed), newDice(seed)
		w := start.watermark()
		alone := start.copy()
		length := alone.run(t, NewPass(alone.l), w)
		for k := range length {
			d := start.copy()
			leaves := len(d.leaves())
			p := NewPass(d.l)
			d.steps(t, p, k)
			if d.locked() > 0 {
				continue
			}
			d.apply(t, g.batch(universe(), 1+g.roll(api.MaxBatch)))
			want := w
			if k == 0 {
				want = d.watermark()
			}
			d.run(t, p, want)
			for time := want; time <= d.published(); time++ {
				d.expectContents(t, time)
			}
			if len(d.leaves()) > leaves {
				splits++
			}
			// What the batch has written is not older than the watermark.
			d.expectClean(t, want)
		}
	}
	if splits < 500 {
		t.Errorf("the test does too little: %d batches split leaves", splits)
	}
}
