package read

import (
	"testing"

	"blinktree/api"
	"blinktree/latch"
)

// sample is a database in which the last batch has not been published yet, and a key.
type sample struct {
	*database
	key string
	now uint64 // the present time
}

// samples calls a function with databases and keys.
func samples(t *testing.T, seeds int, try func(x sample)) {
	t.Helper()
	differ := 0
	for seed := range seeds {
		g := newDice(seed)
		d := newDatabase(t, seed)
		if d.floor() == d.published() {
			d.apply(t, nil)
		}
		// Later on, the floor may become the time of the last batch.
		d.apply(t, g.batch(universe()[:40], 12))
		now := d.published() - 1
		d.set(d.l.Published(), now)
		for _, key := range shuffled(g, universe()[:40])[:6] {
			if d.at(key, now).Value != d.at(key, now+1).Value {
				differ++
			}
			try(sample{d.copy(), key, now})
		}
	}
	if differ < seeds {
		t.Errorf("the test does too little: %d keys are changed by the last batch", differ)
	}
}

// length returns how many steps a Get of the key makes, and as many makes a GetAt.
func (x sample) length(t *testing.T) int {
	t.Helper()
	return x.run(t, "P17.1", NewGet(x.l, x.key), x.at(x.key, x.now), 1)
}

// begun returns a Get of the key and a GetAt at a time after some steps of each.
func (x sample) begun(t *testing.T, time uint64, steps int) (*Get, *GetAt) {
	t.Helper()
	g, h := NewGet(x.l, x.key), NewGetAt(x.l, x.key, time)
	x.steps(t, g, steps)
	x.steps(t, h, steps)
	return g, h
}

// P17.1, P17.2, P17.3: Published is loaded in the first step, and not again: it matters what it is before this step, but not after it.
func TestPublishedFirst(t *testing.T) {
	samples(t, 100, func(x sample) {
		value, later, future := x.at(x.key, x.now), x.at(x.key, x.now+1), api.Answer{Err: api.ErrFuture}
		for k := range x.length(t) {
			present, past, next := value, value, future
			if k == 0 {
				present, past, next = later, future, later
			}
			g, h := x.begun(t, x.now+1, k)
			if (h.Answer() == future) != (k > 0) {
				t.Fatalf("P17.2: after %d steps at a future time, the answer is %v", k, h.Answer())
			}
			x.set(x.l.Published(), x.now+1)
			x.run(t, "P17.1: Published changes", g, present, 1)
			x.run(t, "P17.2: Published changes", h, next, 1)
			x.set(x.l.Published(), x.now)

			_, h = x.begun(t, x.now, k)
			x.set(x.l.Published(), x.now-1)
			x.run(t, "P17.2: Published changes", h, past, 1)
			x.set(x.l.Published(), x.now)
		}
	})
}

// P17.1, P17.2: the floor is loaded in the last step, and only there. If it is above the time of the read then, Get begins again, and GetAt
// answers ErrVacuumed; if it was above it only before that, or is only after that, the answer is the value.
func TestFloorLast(t *testing.T) {
	samples(t, 30, func(x sample) {
		length, floor := x.length(t), x.floor()
		value, later := x.at(x.key, x.now), x.at(x.key, x.now+1)
		for from := 1; from <= length; from++ {
			for until := from; until <= length; until++ {
				g, h := x.begun(t, x.now, from)
				x.set(x.l.Floor(), x.now+1)
				x.set(x.l.Published(), x.now+1)
				x.steps(t, g, until-from)
				x.steps(t, h, until-from)
				if until < length || from == length {
					x.set(x.l.Floor(), floor)
					x.run(t, "P17.1: the floor", g, value, 1)
					x.run(t, "P17.2: the floor", h, value, 1)
				} else {
					x.run(t, "P17.1: the floor", g, later, 2)
					x.run(t, "P17.2: the floor", h, api.Answer{Err: api.ErrVacuumed}, 1)
				}
				x.set(x.l.Floor(), floor)
				x.set(x.l.Published(), x.now)
			}
		}
	})
}

// P17.1: a Get begins again as often as the floor is above the time of its last load of Published, and Marks is the number of these loads,
// after each step.
func TestAgain(t *testing.T) {
	for rounds := range 9 {
		d := empty(t, small())
		for _, value := range []string{"1", "2", "3", "4", "5", "6", "7", "8", "9", "10"} {
			d.apply(t, put("a", value))
		}
		d.set(d.l.Published(), 1)
		length := d.searchSteps(t, "a", 1) + 2
		g := NewGet(d.l, "a")
		for i := range rounds {
			for k := range length {
				if k == length-1 {
					d.set(d.l.Floor(), uint64(i)+2)
				}
				if d.step(t, g) || g.Marks() != i+1 {
					t.Fatalf("P17.1: in round %d, after step %d, Marks is %d", i+1, k+1, g.Marks())
				}
			}
			d.set(d.l.Published(), uint64(i)+2)
			length = d.searchSteps(t, "a", uint64(i)+2) + 2
		}
		if d.steps(t, g, length-1) || g.Marks() != rounds+1 {
			t.Fatalf("P17.1: in the last round, Marks is %d", g.Marks())
		}
		d.run(t, "P17.1", g, d.at("a", uint64(rounds)+1), rounds+1)
	}
}

// P17.2: Marks of GetAt is 0 until its last step.
func TestMarks(t *testing.T) {
	samples(t, 30, func(x sample) {
		for _, time := range []uint64{0, x.floor(), x.now, x.now + 1} {
			g := NewGetAt(x.l, x.key, time)
			for g.Answer() == (api.Answer{}) {
				if g.Marks() != 0 {
					t.Fatalf("P17.2: Marks is %d before the last step", g.Marks())
				}
				x.step(t, g)
			}
			x.expectFinished(t, "P17.2", g, x.wanted(x.key, time), 1)
		}
	})
}

// P17.1, P17.2: after each number of steps, the leaf is being changed. A read that has not got beyond it waits, and reads it when it is not
// changing any more; a lock does not matter to it.
func TestLatches(t *testing.T) {
	waits, passes := 0, 0
	samples(t, 60, func(x sample) {
		length, value := x.length(t), x.at(x.key, x.now)
		cell := x.l.Latch(x.leaf(x.key))
		word := x.m.Peek(cell).N
		changing := latch.Begin(latch.Lock(word))
		for k := range length {
			g, h := x.begun(t, x.now, k)
			for _, r := range []reader{g, h} {
				x.set(cell, changing)
				if x.steps(t, r, 3*length) {
					passes++
				} else {
					waits++
				}
				x.set(cell, latch.Unlock(latch.End(changing)))
				x.run(t, "P17.1, P17.2: the leaf is changing", r, value, 1)
				x.set(cell, word)
			}
		}
		x.set(cell, latch.Lock(word))
		x.get(t, x.key, value)
		x.getAt(t, x.key, x.now, value)
	})
	if waits < 500 || passes < 500 {
		t.Errorf("the test does too little: %d reads wait, and %d do not", waits, passes)
	}
}
