package read

import (
	"math"
	"slices"
	"strings"
	"testing"

	"blinktree/api"
	"blinktree/chain"
	"blinktree/descent"
	"blinktree/page"
)

// put returns a batch of one write of a value.
func put(key, value string) []api.Write { return []api.Write{{Key: key, Value: value}} }

// get performs a Get, and reports an error if the answer is not this one, or if it does not begin just once.
func (d *database) get(t *testing.T, key string, want api.Answer) {
	t.Helper()
	d.run(t, "P17.1", NewGet(d.l, key), want, 1)
}

// getAt performs a GetAt, and reports an error if the answer is not this one.
func (d *database) getAt(t *testing.T, key string, time uint64, want api.Answer) {
	t.Helper()
	d.run(t, "P17.2", NewGetAt(d.l, key, time), want, 1)
}

// P17.1, P17.2: the example, and further reads of a small database.
func TestExample(t *testing.T) {
	d := empty(t, small())
	d.get(t, "a", api.Answer{Err: api.ErrNotFound, Key: "a"})
	d.getAt(t, "a", 0, api.Answer{Err: api.ErrNotFound, Key: "a"})
	d.getAt(t, "a", 1, api.Answer{Err: api.ErrFuture})
	d.apply(t, put("a", "1"))
	d.get(t, "a", api.Answer{Time: 1, Key: "a", Value: "1"})
	d.getAt(t, "a", 0, api.Answer{Err: api.ErrNotFound, Key: "a"})
	d.getAt(t, "a", 1, api.Answer{Time: 1, Key: "a", Value: "1"})
	d.getAt(t, "a", 2, api.Answer{Err: api.ErrFuture})
	d.apply(t, []api.Write{{Key: "a", Delete: true}, {Key: "b"}})
	d.apply(t, nil)
	d.get(t, "a", api.Answer{Err: api.ErrNotFound, Time: 3, Key: "a"})
	d.get(t, "b", api.Answer{Time: 3, Key: "b"})
	d.get(t, "", api.Answer{Err: api.ErrNotFound, Time: 3})
	d.getAt(t, "a", 1, api.Answer{Time: 1, Key: "a", Value: "1"})
	d.getAt(t, "a", 2, api.Answer{Err: api.ErrNotFound, Time: 2, Key: "a"})
	d.vacuum(t, 2)
	d.getAt(t, "a", 1, api.Answer{Err: api.ErrVacuumed})
	d.getAt(t, "b", 1, api.Answer{Err: api.ErrVacuumed})
	d.getAt(t, "b", 2, api.Answer{Time: 2, Key: "b"})
	d.getAt(t, "a", 2, api.Answer{Err: api.ErrNotFound, Time: 2, Key: "a"})
}

// P2.4: before the first step, there is no access, no answer and no mark.
func TestBefore(t *testing.T) {
	d := newDatabase(t, 0)
	accesses := d.m.Accesses()
	for _, r := range []reader{NewGet(d.l, "a"), NewGetAt(d.l, "a", 1)} {
		if d.m.Accesses() != accesses || r.Answer() != (api.Answer{}) || r.Marks() != 0 {
			t.Errorf("P2.4: the answer is %v with Marks %d", r.Answer(), r.Marks())
		}
	}
}

// searchSteps returns how many accesses it takes to find the leaf that covers a key, and to look the key up there at a time.
func (d *database) searchSteps(t *testing.T, key string, time uint64) int {
	t.Helper()
	accesses := d.m.Accesses()
	f := descent.NewFind(d.l, key, leafLevel)
	d.finish(t, f)
	_, p := f.Node()
	if i, in := page.Find(p, key); in {
		d.finish(t, chain.NewLookup(d.l, p.Slots[i].Ref, time))
	}
	return int(d.m.Accesses() - accesses)
}

// keysToTry returns all keys of the universe and some others.
func keysToTry() []string {
	return append(universe(), "b", "aab", "\x00b\x00", "\xff\xff\xff\xff\xff", strings.Repeat("a", api.MaxKey))
}

// P17.1, P17.3: Get finds the present value of each key, with the accesses of the search and two more.
func TestGet(t *testing.T) {
	found, missing := 0, 0
	for seed := range 60 {
		d := newDatabase(t, seed)
		d.unchanged(t, func() {
			for _, key := range keysToTry() {
				want := d.at(key, d.published())
				n := d.run(t, "P17.1, P17.3", NewGet(d.l, key), want, 1)
				if search := d.searchSteps(t, key, d.published()); n != search+2 {
					t.Fatalf("P17.1: Get of %q makes %d steps, but the search takes %d", key, n, search)
				}
				if want.Err == api.OK {
					found++
				} else {
					missing++
				}
			}
		})
	}
	if found < 1000 || missing < 1000 {
		t.Errorf("the test does too little: %d keys have a value, and %d have none", found, missing)
	}
}

// times returns the present time and the floor, the times beside them, some in the far future, and every fifth time of the past.
func (d *database) times(first int) []uint64 {
	now, floor := d.published(), d.floor()
	list := []uint64{now, now + 1, now + 2, 1 << 40, 1 << 63, math.MaxUint64, floor, floor - min(floor, 1)}
	for time := uint64(first % 5); time < now; time += 5 {
		list = append(list, time)
	}
	return list
}

// P17.2: GetAt finds the value of each key at each time that is neither in the future nor below the floor, with the accesses of the search
// and two more. In the future, the load of Published is the only one.
func TestGetAt(t *testing.T) {
	count := map[api.Errno]int{}
	for seed := range 60 {
		d := newDatabase(t, seed)
		d.unchanged(t, func() {
			for i, key := range keysToTry() {
				for _, time := range d.times(i) {
					want := d.wanted(key, time)
					n := d.run(t, "P17.2", NewGetAt(d.l, key, time), want, 1)
					steps := 1
					if want.Err != api.ErrFuture {
						steps = d.searchSteps(t, key, time) + 2
					}
					if n != steps {
						t.Fatalf("P17.2: GetAt of %q at %d makes %d steps, want %d", key, time, n, steps)
					}
					count[want.Err]++
				}
			}
		})
	}
	for _, err := range []api.Errno{api.OK, api.ErrNotFound, api.ErrFuture, api.ErrVacuumed} {
		if count[err] < 2000 {
			t.Errorf("the test does too little: %d answers with the error %d", count[err], err)
		}
	}
}

// P17.1, P17.2: only the numbers in Published and in Floor count, and Allocated does not.
func TestOtherWords(t *testing.T) {
	d := empty(t, small())
	d.apply(t, put("a", "1"))
	d.m.Poke(d.l.Published(), api.Cell{N: 1, K: "x", M: 7})
	d.m.Poke(d.l.Floor(), api.Cell{N: 1, K: "y", M: 9})
	d.set(d.l.Allocated(), 8)
	d.get(t, "a", api.Answer{Time: 1, Key: "a", Value: "1"})
	d.getAt(t, "a", 1, api.Answer{Time: 1, Key: "a", Value: "1"})
	d.getAt(t, "a", 2, api.Answer{Err: api.ErrFuture})
	d.getAt(t, "a", 0, api.Answer{Err: api.ErrVacuumed})
}

// P17.1, P17.2: each word at a limit: the greatest timestamps, and the floor at the time of the read, below it and above it.
func TestLimits(t *testing.T) {
	for _, now := range []uint64{2, api.MaxClock, math.MaxUint64} {
		d := empty(t, small())
		d.apply(t, put("a", "1"))
		d.apply(t, put("a", "2"))
		d.set(d.l.Published(), now)
		for _, floor := range []uint64{0, 1, 2, now - 1, now} {
			d.set(d.l.Floor(), floor)
			d.get(t, "a", api.Answer{Time: now, Key: "a", Value: "2"})
			d.getAt(t, "a", now, api.Answer{Time: now, Key: "a", Value: "2"})
			if now < math.MaxUint64 {
				d.getAt(t, "a", now+1, api.Answer{Err: api.ErrFuture})
			}
			if floor > 0 {
				d.getAt(t, "a", floor-1, api.Answer{Err: api.ErrVacuumed})
			}
		}
	}
}

// P17.2: if a time is both in the future and below the floor, which does not happen in a database, it is in the future.
func TestFutureBelowFloor(t *testing.T) {
	d := empty(t, small())
	d.apply(t, put("a", "1"))
	d.set(d.l.Floor(), 9)
	d.getAt(t, "a", 5, api.Answer{Err: api.ErrFuture})
	d.getAt(t, "a", 1, api.Answer{Err: api.ErrVacuumed})
}

// P17.3: pending versions, and versions whose timestamp has not been published, are not seen.
func TestUnpublished(t *testing.T) {
	d := empty(t, small())
	d.apply(t, put("a", "1"))
	d.apply(t, []api.Write{{Key: "a", Value: "2"}, {Key: "b", Value: "3"}})
	d.set(d.l.Published(), 1)
	d.get(t, "a", api.Answer{Time: 1, Key: "a", Value: "1"})
	d.get(t, "b", api.Answer{Err: api.ErrNotFound, Time: 1, Key: "b"})
	d.getAt(t, "b", 2, api.Answer{Err: api.ErrFuture})
	for r := uint64(1); r <= 3; r++ {
		d.set(d.l.Stamp(r), 0)
	}
	d.get(t, "a", api.Answer{Err: api.ErrNotFound, Time: 1, Key: "a"})
}

// Rule 1: reads of keys that are too long, or that only a batch cannot write, terminate, and find nothing.
func TestLongKeys(t *testing.T) {
	for seed := range 5 {
		d := newDatabase(t, seed)
		for _, key := range []string{strings.Repeat("a", api.MaxKey+1), strings.Repeat("\xff", 1000)} {
			d.get(t, key, api.Answer{Err: api.ErrNotFound, Time: d.published(), Key: key})
			d.getAt(t, key, d.published(), api.Answer{Err: api.ErrNotFound, Time: d.published(), Key: key})
		}
	}
}

// Rule 1: in a damaged memory, too, a read finishes, if no links form a circle and the floor is not above Published.
func TestDamaged(t *testing.T) {
	for seed := range 20 {
		start := newDatabase(t, seed)
		for _, n := range []uint64{0, 1 << 40, math.MaxUint64} {
			roots, links, refs, heads := start.copy(), start.copy(), start.copy(), start.copy()
			roots.set(roots.l.Root(), n)
			for id := uint64(1); id <= start.m.Peek(start.l.Nodes()).N; id++ {
				links.m.Poke(links.l.High(id), api.Cell{})
				links.set(links.l.Right(id), n)
				for i := range start.l.Config().Fanout {
					refs.set(refs.l.Slot(id, i), n)
				}
			}
			for c := range uint64(start.l.Config().Chains) {
				heads.set(heads.l.Chain(c+1), n)
			}
			for _, d := range []*database{roots, links, refs, heads} {
				for _, key := range []string{"", "a", "\xffa"} {
					want := api.Answer{Err: api.ErrNotFound, Time: d.published(), Key: key}
					d.getAt(t, key, d.published(), want)
					d.get(t, key, want)
				}
			}
		}
	}
}

// P17.1, P17.2: the same memory can be read by many machines at once, none of which disturbs another one.
func TestTogether(t *testing.T) {
	d := newDatabase(t, 8)
	all := keysToTry()
	var list []reader
	var want []api.Answer
	for i, key := range all {
		time := d.floor() + uint64(i)%(d.published()-d.floor()+1)
		list = append(list, NewGet(d.l, key), NewGetAt(d.l, key, time))
		want = append(want, d.at(key, d.published()), d.at(key, time))
	}
	ended := make([]bool, len(list))
	g := newDice(1)
	for slices.Contains(ended, false) {
		if k := g.roll(len(list)); !ended[k] {
			ended[k] = d.step(t, list[k])
		}
	}
	for i, r := range list {
		d.expectFinished(t, "P17.1, P17.2", r, want[i], 1)
	}
}
