package commit

import (
	"slices"
	"strconv"
	"testing"

	"blinktree/api"
	"blinktree/batch"
	"blinktree/descent"
	"blinktree/latch"
	"blinktree/page"
)

// caller applies batches one after the other.
type caller struct {
	batches [][]api.Write // the one in progress and those after it
	now     *Apply        // nil if none is left
}

// next goes on with the next batch.
func (c *caller) next(d *database) {
	c.now = nil
	if len(c.batches) > 0 {
		c.now = NewApply(d.l, c.batches[0])
	}
}

// arena is a database and callers that work on it, with readers.
type arena struct {
	*database
	*dice
	callers []*caller
	entries [][]api.Entry // what is to be seen at each time up to the present
	readers []*reader
	words   []uint64          // the word in each latch, the one of Grow first
	owners  []int             // who has locked each of them: the index of a caller, or nobody
	errs    map[api.Errno]int // how many batches have ended with each error, OK included
	read    int
}

// nobody is the owner of a latch that is not locked.
const nobody = -1

// newArena returns a database in a state, and callers that apply some batches of some keys.
func newArena(t *testing.T, seed int, s *state, callers, batches int, keys []string) *arena {
	t.Helper()
	a := &arena{database: newDatabase(t, s), dice: newDice(seed), entries: s.history(t), errs: map[api.Errno]int{}}
	for range callers {
		a.callers = append(a.callers, &caller{})
	}
	for range batches {
		c := a.callers[a.roll(callers)]
		c.batches = append(c.batches, a.batch(keys, a.roll(min(len(keys), 1+seed%9))+1))
	}
	for _, c := range a.callers {
		c.next(a.database)
	}
	for i := range a.l.Config().Nodes + 1 {
		a.words = append(a.words, a.latchWord(i))
		a.owners = append(a.owners, nobody)
	}
	return a
}

// latchWord returns the word in the latch of node i, or in Grow if i is 0.
func (a *arena) latchWord(i int) uint64 {
	if i == 0 {
		return a.m.Peek(a.l.Grow()).N
	}
	return a.word(uint64(i))
}

// follow looks at the latches after a step of a caller.
func (a *arena) follow(t *testing.T, k int) {
	t.Helper()
	for i, before := range a.words {
		after := a.latchWord(i)
		a.words[i] = after
		switch {
		case before == after:
			continue
		case latch.Locked(before) && a.owners[i] != k:
			t.Fatalf("P16.1: latch %d is changed, but somebody else has locked it", i)
		case !latch.Locked(before) && after != latch.Lock(before) && (after != 1 || before < unusedWord):
			t.Fatalf("P16.1: latch %d is changed, but nobody has locked it", i)
		}
		a.owners[i] = nobody
		if latch.Locked(after) {
			a.owners[i] = k
		}
	}
}

// pick makes a step of a caller that has not finished.
func (a *arena) pick(t *testing.T, k int) {
	t.Helper()
	c := a.callers[k]
	marks, published := c.now.Marks(), a.published()
	finished := a.step(t, c.now)
	a.follow(t, k)
	if c.now.Marks() > marks {
		a.takesEffect(t, c, published)
	} else if a.published() != published {
		t.Fatal("P16.4: a batch is published, but Marks is as before")
	}
	if finished {
		if slices.Contains(a.owners, k) {
			t.Fatalf("P16.2, P16.3: caller %d has not released all latches: %v", k, a.owners)
		}
		c.batches = c.batches[1:]
		c.next(a.database)
	}
}

// takesEffect looks at a batch that has taken effect in this step.
func (a *arena) takesEffect(t *testing.T, c *caller, published uint64) {
	t.Helper()
	answer := c.now.Answer()
	a.errs[answer.Err]++
	n := a.l.Config()
	full := a.used() == uint64(n.Nodes) || a.m.Peek(a.l.Chains()).N == uint64(n.Chains) || a.m.Peek(a.l.Records()).N == uint64(n.Records)
	switch answer {
	case api.Answer{Time: published + 1}:
		if a.published() != published+1 {
			t.Fatalf("P16.2: the answer is %v, but %d is published", answer, a.published())
		}
		a.entries = append(a.entries, batch.Apply(a.entries[published], c.batches[0]))
		return
	case api.Answer{Err: api.ErrFull}:
		if !full {
			t.Fatal("P16.5: a batch fails, but a node, a chain and a record are left")
		}
	case api.Answer{Err: api.ErrClock}:
		if a.m.Peek(a.l.Allocated()).N != n.Clock {
			t.Fatal("P16.3: a batch fails, but a timestamp is left")
		}
	default:
		t.Fatalf("P16.2, P16.3: the answer is %v", answer)
	}
	if a.published() != published {
		t.Fatalf("P16.3: the answer is %v, but %d is published", answer, a.published())
	}
}

// look makes some steps of readers, and looks at all entries now and then.
func (a *arena) look(t *testing.T, all []string) {
	t.Helper()
	for len(a.readers) < 4 {
		a.readers = append(a.readers, a.database.read(all[a.roll(len(all))]))
	}
	for range a.roll(5) {
		k := a.roll(len(a.readers))
		if r := a.readers[k]; r.Step(a.m) {
			r.expect(t, a.entries[r.time])
			a.readers = slices.Delete(a.readers, k, k+1)
			a.read++
			return
		}
	}
	if a.roll(8) == 0 && !a.changing() {
		time := a.published()
		a.expectContents(t, "P16.5", time, a.entries[time]...)
		time -= min(time, uint64(a.roll(9)))
		a.expectContents(t, "P16.5", time, a.entries[time]...)
	}
}

// work picks callers until all of them have finished: in turn, or in an order that seems random, in which the first ones of those that
// have not finished are favoured. It returns the tree.
func (a *arena) work(t *testing.T, inTurn bool, all []string) *tree {
	t.Helper()
	for picks := 0; ; picks++ {
		var working []int
		for k, c := range a.callers {
			if c.now != nil {
				working = append(working, k)
			}
		}
		if len(working) == 0 {
			break
		}
		if picks > 400000 {
			t.Fatal("P16.1, P16.2: the callers wait for each other")
		}
		k := picks % len(working)
		if !inTurn {
			k = min(a.roll(len(working)), a.roll(len(working)))
		}
		a.pick(t, working[k])
		a.look(t, all)
	}
	if a.published() != uint64(len(a.entries))-1 {
		t.Fatalf("P16.2: %d is published, but %d batches have succeeded", a.published(), len(a.entries)-1)
	}
	for time, want := range a.entries {
		a.expectContents(t, "P16.5", uint64(time), want...)
	}
	a.expectFound(t)
	return a.survey(t)
}

// expectFound reports an error if a key that has a value is not found.
func (a *arena) expectFound(t *testing.T) {
	t.Helper()
	for _, e := range a.entries[len(a.entries)-1] {
		f := descent.NewFind(a.l, e.Key, leafLevel)
		if !a.finish(f) {
			t.Fatal("P16.2: a Find does not finish")
		}
		if _, p := f.Node(); !slices.ContainsFunc(p.Slots, func(s api.Slot) bool { return s.Key == e.Key }) {
			t.Fatalf("P16.2: %q is not found", e.Key)
		}
	}
}

// P16.1, P16.2, P16.4, P16.5: many callers that apply batches in many orders, while others read. There is enough of everything, so none of
// them fails, and all nodes are posted.
func TestManyCallers(t *testing.T) {
	read := 0
	for seed := range 30 {
		s := newState(seed, fanouts[seed%3])
		for _, h := range s.nodes {
			// What an earlier failure has left is not posted by anybody.
			s.post(s.unposted(h))
		}
		all := shuffled(newDice(seed), universe())[:[]int{3, 20, 121}[seed%3]]
		s.limitLeft(200, 121, 500, 60)
		a := newArena(t, seed, s, 2+seed%13, 60, all)
		a.work(t, seed%4 == 0, all).expectPosted(t)
		if len(a.errs) != 1 || a.errs[api.OK] != 60 {
			t.Fatalf("P16.5: there is enough, but the batches have these errors: %v", a.errs)
		}
		read += a.read
	}
	if read < 1000 {
		t.Errorf("the test does too little: %d readers have finished", read)
	}
}

// unposted returns the job of posting a node if the level above has no slot with it, and otherwise none.
func (s *state) unposted(h api.Held) job {
	level := h.Page.Level + 1
	row := s.row(h.Page.Level)
	i := slices.IndexFunc(row, func(g api.Held) bool { return g.ID == h.ID })
	if i <= 0 {
		return job{}
	}
	for _, g := range s.row(level) {
		if _, in := page.Find(g.Page, row[i-1].Page.High); in {
			return job{}
		}
	}
	return job{level, row[i-1].Page.High, h.ID}
}

// P16.3: the same with too little of something. Batches fail only then, and what they have done is not visible.
func TestManyCallersWithTooLittle(t *testing.T) {
	failed := map[string]int{}
	for seed := range 60 {
		left := []int{200, 121, 500, 60}
		left[seed%4] = seed / 4
		all := shuffled(newDice(seed), universe())[:[]int{20, 50, 121}[seed%3]]
		s := newState(seed, fanouts[seed%3])
		s.limitLeft(left[0], left[1], left[2], left[3])
		a := newArena(t, seed, s, 2+seed%7, 60, all)
		a.work(t, seed%5 == 0, all)
		for err, n := range a.errs {
			failed[strconv.Itoa(seed%4)+" "+strconv.Itoa(int(err))] += n
		}
	}
	for _, name := range []string{"0 0", "0 2", "1 0", "1 2", "2 0", "2 2", "3 0", "3 9"} {
		if failed[name] < 50 {
			t.Errorf("the test does too little: %d batches with too little of %s", failed[name], name)
		}
	}
}

// P16.5: batches need exactly as many chains, records and timestamps as are left, and nodes are left for each write and for posting. None of
// them fails.
func TestJustEnough(t *testing.T) {
	for seed := range 60 {
		all := shuffled(newDice(seed), universe())[:40]
		s := emptyState(fanouts[seed%3])
		s.limitLeft(80, 40, 40, 8)
		a := newArena(t, seed, s, 8, 0, all)
		for k, c := range a.callers {
			some := slices.Sorted(slices.Values(all[5*k : 5*k+5]))
			c.batches = append(c.batches, nil)
			for _, key := range some {
				c.batches[0] = append(c.batches[0], put(key, "x"))
			}
			c.next(a.database)
		}
		a.work(t, seed%2 == 0, all)
		if a.errs[api.OK] != 8 {
			t.Fatalf("P16.5: there is just enough, but the batches have these errors: %v", a.errs)
		}
	}
}
