package vacuum

import (
	"slices"
	"testing"

	"blinktree/api"
	"blinktree/chain"
	"blinktree/commit"
	"blinktree/latch"
	"blinktree/node"
	"blinktree/page"
	"blinktree/read"
	"blinktree/record"
	"blinktree/registry"
)

// actor is somebody who makes steps, one after the other.
type actor interface {
	// step makes a step.
	step(t *testing.T, a *arena)
	// idle reports whether nothing is left to do.
	idle() bool
}

// arena is a database and those who use it.
type arena struct {
	*database
	actors []actor
	words  []uint64 // the word in each latch, the one of Grow first
	owners []int    // who has locked each of them: the place of an actor, or nobody
	live   []*keeper
	counts map[string]int // how often something has happened
}

// nobody is the owner of a latch that is not locked.
const nobody = -1

// newArena returns a database with some actors.
func newArena(d *database, counts map[string]int, actors ...actor) *arena {
	a := &arena{database: d, actors: actors, counts: counts}
	for i := range d.l.Config().Nodes + 1 {
		a.words = append(a.words, a.latchWord(i))
		a.owners = append(a.owners, nobody)
	}
	return a
}

// latchWord returns the word in the latch of node i, or in Grow if i is 0.
func (a *arena) latchWord(i int) uint64 {
	if i == 0 {
		return a.m.Peek(a.l.Grow()).N
	}
	return a.word(uint64(i))
}

// pick makes a step of an actor that is not idle.
func (a *arena) pick(t *testing.T, k int) {
	accesses, floor := a.m.Accesses(), a.floor()
	a.actors[k].step(t, a)
	if a.m.Accesses() == accesses {
		t.Fatal("P2.4: a step makes no access")
	}
	a.follow(t, k)
	if a.floor() < floor || a.floor() > a.published() {
		t.Fatalf("P19.4: the floor is %d after %d, and Published is %d", a.floor(), floor, a.published())
	}
	for _, s := range a.live {
		if a.floor() > s.time {
			t.Fatalf("P19.4: the floor is %d, and a snapshot is open at %d", a.floor(), s.time)
		}
	}
}

// follow looks at the latches after a step of an actor.
func (a *arena) follow(t *testing.T, k int) {
	own := 0
	for i, before := range a.words {
		after := a.latchWord(i)
		a.words[i] = after
		switch {
		case before == after:
		case latch.Locked(before) && a.owners[i] != k:
			t.Fatalf("P19.2: latch %d is changed, but somebody else has locked it", i)
		case !latch.Locked(before) && after != latch.Lock(before):
			t.Fatalf("P19.2: latch %d is changed, but nobody has locked it", i)
		case latch.Locked(after):
			a.owners[i] = k
		default:
			a.owners[i] = nobody
		}
		if a.owners[i] == k {
			own++
		}
	}
	if s, isPass := a.actors[k].(*sweeper); isPass && (own > 1 || s.now == nil && own > 0) {
		t.Fatalf("P19.2: a pass has locked %d latches, and it is %t that it is in progress", own, s.now != nil)
	}
}

// look reports an error if the entries at a time are not what they must be. As long as a leaf is being changed, they cannot be seen.
func (a *arena) look(t *testing.T, time uint64) {
	if !a.changing() {
		a.expectContents(t, time)
		a.counts["looks"]++
	}
}

// working returns the places of the actors that are not idle.
func (a *arena) working() []int {
	var list []int
	for k, x := range a.actors {
		if !x.idle() {
			list = append(list, k)
		}
	}
	return list
}

// end looks at the database when all actors are idle, and makes a pass alone.
func (a *arena) end(t *testing.T) {
	t.Helper()
	if a.published() != uint64(len(a.entries))-1 || len(a.live) > 0 {
		t.Fatal("the test is wrong: something is in progress")
	}
	for time := a.floor(); time <= a.published(); time++ {
		a.expectContents(t, time)
	}
	a.survey(t)
	w := a.watermark()
	a.run(t, NewPass(a.l), w)
	a.expectContents(t, w)
	a.expectClean(t, w)
	a.survey(t)
}

// survey reports an error if a latch is locked, a leaf is not valid, or a chain is not, or is that of two keys.
func (a *arena) survey(t *testing.T) {
	t.Helper()
	for i := range a.words {
		if w := a.latchWord(i); latch.Locked(w) || latch.Changing(w) {
			t.Fatalf("P19.2: the word of latch %d is %d in the end", i, w)
		}
	}
	low, seen := "", map[uint64]bool{}
	for _, id := range a.leaves() {
		p := node.Peek(a.l, a.m, id)
		if !page.Check(p, a.l.Config().Fanout) || len(p.Slots) > 0 && p.Slots[0].Key < low {
			t.Fatalf("P19.2: leaf %d with the low key %q is %#v", id, low, p)
		}
		low = p.High
		for _, s := range p.Slots {
			if list := chain.Peek(a.l, a.m, s.Ref); seen[s.Ref] || !record.Check(list) {
				t.Fatalf("P19.2: the key %q has the chain %d with %v", s.Key, s.Ref, list)
			}
			seen[s.Ref] = true
		}
	}
}

// sweeper makes passes.
type sweeper struct {
	left int // the passes that have not finished
	now  *Pass
	twin *registry.Watermark // it makes the same loads as the pass
}

func (s *sweeper) idle() bool { return s.left == 0 }

func (s *sweeper) step(t *testing.T, a *arena) {
	if s.now == nil {
		s.now, s.twin = NewPass(a.l), registry.NewWatermark(a.l)
	}
	s.twin.Step(a.m)
	floor, marks := a.floor(), s.now.Marks()
	finished := a.step(t, s.now)
	switch {
	case s.now.Marks() > marks:
		w := s.twin.Time()
		if s.now.Answer().Time != w || a.floor() != max(floor, w) {
			t.Fatalf("P19.1: the answer is %v and the floor %d after %d, want %d", s.now.Answer(), a.floor(), floor, w)
		}
		if a.counts["passes"]++; w > floor {
			a.counts["floors raised"]++
		}
	case a.floor() != floor:
		t.Fatal("P19.1: the floor changes in a step in which the pass does not take effect")
	}
	if finished {
		s.left--
		s.now = nil
	}
}

// writer applies batches.
type writer struct {
	batches [][]api.Write // the one in progress and those after it
	now     *commit.Apply
}

func (w *writer) idle() bool { return len(w.batches) == 0 }

func (w *writer) step(t *testing.T, a *arena) {
	if w.now == nil {
		w.now = commit.NewApply(a.l, w.batches[0])
	}
	published := a.published()
	finished := w.now.Step(a.m)
	if a.published() > published {
		a.publish(w.batches[0])
	}
	if finished {
		if w.now.Answer().Err != api.OK {
			a.counts["failures"]++
		}
		w.batches, w.now = w.batches[1:], nil
	}
}

// keeper opens a snapshot, reads some keys at its time, and releases it, again and again.
type keeper struct {
	*dice
	thread, j int
	keys      []string
	left      int // the snapshots that have not been released
	opening   *registry.Open
	open      bool
	time      uint64
	reads     int // those that are left before the release
	read      *reader
}

func (s *keeper) idle() bool { return s.left == 0 }

func (s *keeper) step(t *testing.T, a *arena) {
	switch {
	case s.open && s.read != nil:
		if s.read.advance(t, a) {
			s.read = nil
			s.reads--
		}
	case s.open && s.reads > 0:
		key := s.keys[s.roll(len(s.keys))]
		s.read = &reader{key: key, at: true, time: s.time, machine: read.NewGetAt(a.l, key, s.time)}
		s.read.advance(t, a)
	case s.open:
		a.live = slices.DeleteFunc(a.live, func(o *keeper) bool { return o == s })
		s.open = false
		registry.NewRelease(a.l, s.thread, s.j).Step(a.m)
		s.left--
	default:
		s.goOnOpening(a)
	}
}

// goOnOpening makes a step of an Open. From the step in which it takes effect on, the snapshot is open at its time.
func (s *keeper) goOnOpening(a *arena) {
	if s.opening == nil {
		s.opening = registry.NewOpen(a.l, s.thread, s.j)
	}
	published, marks := a.published(), s.opening.Marks()
	finished := s.opening.Step(a.m)
	if s.opening.Marks() > marks {
		s.time = published
		a.live = append(a.live, s)
		a.counts["snapshots"]++
	}
	if finished {
		s.opening, s.open, s.reads = nil, true, s.roll(4)
	}
}

// reader reads a key now or at a time.
type reader struct {
	key     string
	at      bool
	time    uint64
	machine interface {
		machine
		Answer() api.Answer
		Marks() int
	}
	want api.Answer
}

// advance makes a step of the read, and reports whether it has finished. The answer must be what the model answers in the step in which the
// read takes effect.
func (r *reader) advance(t *testing.T, a *arena) bool {
	marks := r.machine.Marks()
	finished := r.machine.Step(a.m)
	if r.machine.Marks() > marks {
		r.want = a.wanted(r)
	}
	if finished {
		if r.machine.Answer() != r.want {
			t.Fatalf("P19.3: a read of %q answers %v, want %v", r.key, r.machine.Answer(), r.want)
		}
		a.counts["answers "+string(rune('0'+r.want.Err))]++
	}
	return finished
}

// wanted returns the answer of a read that takes effect now.
func (a *arena) wanted(r *reader) api.Answer {
	time := a.published()
	if r.at {
		time = r.time
	}
	switch {
	case time > a.published():
		return api.Answer{Err: api.ErrFuture}
	case r.at && time < a.floor():
		return api.Answer{Err: api.ErrVacuumed}
	}
	for _, e := range a.entries[time] {
		if e.Key == r.key {
			return api.Answer{Time: time, Key: r.key, Value: e.Value}
		}
	}
	return api.Answer{Err: api.ErrNotFound, Time: time, Key: r.key}
}

// visitor reads keys now and at times near the present.
type visitor struct {
	*dice
	keys []string
	left int
	now  *reader
}

func (v *visitor) idle() bool { return v.left == 0 }

func (v *visitor) step(t *testing.T, a *arena) {
	if v.now == nil {
		key := v.keys[v.roll(len(v.keys))]
		v.now = &reader{key: key, machine: read.NewGet(a.l, key)}
		if later := a.published() + 1; v.roll(2) == 0 {
			time := later - min(later, uint64(v.roll(6)))
			v.now = &reader{key: key, at: true, time: time, machine: read.NewGetAt(a.l, key, time)}
		}
	}
	if v.now.advance(t, a) {
		v.now = nil
		v.left--
	}
}
