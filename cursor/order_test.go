package cursor

import (
	"testing"

	"blinktree/api"
	"blinktree/commit"
	"blinktree/registry"
	"blinktree/vacuum"
)

// actor is somebody who makes steps, one after the other.
type actor interface {
	// step makes a step.
	step(t *testing.T, a *arena)
	// idle reports whether nothing is left to do.
	idle() bool
}

// arena is a database and those who use it.
type arena struct {
	*database
	actors []actor
	counts map[string]int // how often something has happened
}

// pick makes a step of an actor that is not idle.
func (a *arena) pick(t *testing.T, k int) {
	published := a.published()
	a.actors[k].step(t, a)
	if a.published() > published && uint64(len(a.entries)) != a.published()+1 {
		t.Fatal("the test is wrong: nobody has noted what has been published")
	}
}

// working returns the places of the actors that are not idle.
func (a *arena) working() []int {
	var list []int
	for k, x := range a.actors {
		if !x.idle() {
			list = append(list, k)
		}
	}
	return list
}

// writer applies batches.
type writer struct {
	batches [][]api.Write // the one in progress and those after it
	now     *commit.Apply
}

func (w *writer) idle() bool { return len(w.batches) == 0 }

func (w *writer) step(t *testing.T, a *arena) {
	if w.now == nil {
		w.now = commit.NewApply(a.l, w.batches[0])
	}
	published := a.published()
	finished := w.now.Step(a.m)
	if a.published() > published {
		a.publish(w.batches[0])
	}
	if finished {
		if w.now.Answer().Err != api.OK {
			a.counts["failures"]++
		}
		w.batches, w.now = w.batches[1:], nil
	}
}

// sweeper makes passes of a vacuum.
type sweeper struct {
	left int // the passes that have not finished
	now  *vacuum.Pass
}

func (s *sweeper) idle() bool { return s.left == 0 }

func (s *sweeper) step(t *testing.T, a *arena) {
	if s.now == nil {
		s.now = vacuum.NewPass(a.l)
	}
	floor := a.floor()
	finished := s.now.Step(a.m)
	if a.floor() > floor {
		a.counts["floors raised"]++
	}
	if finished {
		s.left--
		s.now = nil
	}
}

// cursor makes moves at a time, one after the other, each from the position to which the one before has gone.
type cursor struct {
	*dice
	keys []string
	left int // the moves that have not finished
	x    task
	now  *Move
}

// newCursor returns a cursor in front of the entries at a time.
func newCursor(g *dice, keys []string, time uint64, moves int) *cursor {
	return &cursor{dice: g, keys: keys, left: moves, x: task{time: time}}
}

func (c *cursor) idle() bool { return c.left == 0 }

func (c *cursor) step(t *testing.T, a *arena) {
	if c.now == nil {
		c.choose()
		c.now = c.x.start(a.database)
	}
	accesses := a.m.Accesses()
	if !a.database.step(t, c.now, c.x.still()) {
		return
	}
	if a.m.Accesses() == accesses {
		a.counts["still"]++
	}
	a.expectFinished(t, "P20.4", c.x, c.now)
	if c.now.Position().Place == At {
		a.counts["entries"]++
	} else {
		a.counts["ends"]++
	}
	c.x.p, c.now = c.now.Position(), nil
	c.left--
}

// choose chooses the next move. Mostly a cursor goes on in the direction in which it has gone before.
func (c *cursor) choose() {
	if c.roll(3) > 0 && (c.x.move == api.MoveNext || c.x.move == api.MovePrev) {
		return
	}
	c.x.move, c.x.key = c.roll(5), ""
	if c.x.move == api.MoveSeek {
		c.x.key = oneOf(c.dice, c.keys)
	}
}

// keeper opens a snapshot, moves a cursor on it, and releases it, again and again.
type keeper struct {
	*dice
	thread, j int
	keys      []string
	left      int // the snapshots that have not been released
	opening   *registry.Open
	cursor    *cursor
}

func (s *keeper) idle() bool { return s.left == 0 }

func (s *keeper) step(t *testing.T, a *arena) {
	switch {
	case s.cursor != nil && !s.cursor.idle():
		s.cursor.step(t, a)
	case s.cursor != nil:
		registry.NewRelease(a.l, s.thread, s.j).Step(a.m)
		s.cursor = nil
		s.left--
	default:
		if s.opening == nil {
			s.opening = registry.NewOpen(a.l, s.thread, s.j)
		}
		if s.opening.Step(a.m) {
			s.cursor = newCursor(s.dice, s.keys, s.opening.Time(), 1+s.roll(20))
			s.opening = nil
			a.counts["snapshots"]++
		}
	}
}

// expectCounts reports an error if something has not happened often enough.
func expectCounts(t *testing.T, counts map[string]int, least map[string]int) {
	t.Helper()
	for what, n := range least {
		if counts[what] < n {
			t.Errorf("the test does too little: %d %s", counts[what], what)
		}
	}
}

// P20.4: after each number of steps of a move, others apply a batch, make a pass of a vacuum, or both.
func TestBetween(t *testing.T) {
	splits := 0
	for seed := range 60 {
		start, g := newDatabase(t, seed), newDice(seed)
		time := g.between(start.floor(), start.published())
		start.open(0, 0, time)
		for _, x := range shuffled(g, g.tasks(time))[:6] {
			if x.still() {
				continue
			}
			_, length := start.path(t, x)
			for k := range length {
				d := start.copy()
				leaves := len(d.leaves())
				v := x.start(d)
				d.steps(t, v, k)
				what := g.roll(3)
				if what != 0 {
					d.apply(t, g.batch(universe(), 1+g.roll(api.MaxBatch)))
				}
				if what != 1 {
					d.finish(t, vacuum.NewPass(d.l))
				}
				d.run(t, "P20.4", x, v)
				if len(d.leaves()) > leaves {
					splits++
				}
			}
		}
	}
	if splits < 1000 {
		t.Errorf("the test does too little: %d batches split leaves", splits)
	}
}

// newCrowd returns a generated database with some writers, and keepers beside sweepers or cursors at any time from the floor on.
func newCrowd(t *testing.T, seed int, counts map[string]int) *arena {
	t.Helper()
	g, d := newDice(seed), newDatabase(t, seed)
	a := &arena{database: d, counts: counts}
	some := shuffled(g, universe())[:[]int{3, 12, 90}[seed%3]]
	for range 1 + g.roll(4) {
		w := &writer{}
		for range 8 {
			w.batches = append(w.batches, g.batch(some, g.roll(min(len(some), 8)+1)))
		}
		a.actors = append(a.actors, w)
	}
	if g.roll(4) == 0 {
		for range 4 {
			a.actors = append(a.actors, newCursor(g, some, g.between(d.floor(), d.published()), 30))
		}
		return a
	}
	for k := range 1 + g.roll(6) {
		a.actors = append(a.actors, &keeper{dice: g, thread: k / 2, j: k % 2, keys: some, left: 4})
	}
	for range 1 + g.roll(3) {
		a.actors = append(a.actors, &sweeper{left: 5})
	}
	return a
}

// P20.4: many cursors on snapshots beside batches and passes of a vacuum, and at other times beside batches, in orders that seem random.
// Some actors are much slower than others, and some are not picked at all for a while.
func TestManyActors(t *testing.T) {
	counts := map[string]int{}
	for seed := range 200 {
		g := newDice(seed + 1000)
		a := newCrowd(t, seed, counts)
		slow := make([]int, len(a.actors))
		for n := 0; len(a.working()) > 0; n++ {
			if n > 1000000 {
				t.Fatal("P20.4: the actors wait for each other")
			}
			if n%40 == 0 {
				for k := range slow {
					slow[k] = 1 + g.roll(12)*g.roll(2)
				}
			}
			if k := oneOf(g, a.working()); g.roll(slow[k]) == 0 {
				a.pick(t, k)
			}
		}
	}
	expectCounts(t, counts, map[string]int{"snapshots": 1000, "floors raised": 300, "entries": 5000, "ends": 3000, "still": 1000})
	if counts["failures"] > 0 {
		t.Errorf("the test is wrong: %d batches fail", counts["failures"])
	}
}

// enough is a number of steps with which each actor of the following scenes comes to an end if it does not have to wait.
const enough = 1000

// play picks two actors in turn, each for some steps, and after that until both are idle. It returns how many steps both have made.
func (a *arena) play(t *testing.T, turns ...int) [2]int {
	t.Helper()
	var made [2]int
	for i, turn := range append(turns, enough, enough, enough) {
		k := i % 2
		for n := 0; n < turn && !a.actors[k].idle(); n++ {
			a.pick(t, k)
			made[k]++
		}
	}
	if len(a.working()) > 0 {
		t.Fatal("P20.4: two actors wait for each other")
	}
	return made
}

// playMany plays a scene, which begin returns, in many orders in which the second actor is interrupted at most twice.
func playMany(t *testing.T, begin func() *arena) {
	t.Helper()
	const stride = 13
	longest := begin().play(t)
	alone := begin().play(t, 0, enough)
	for k := range longest {
		longest[k] = max(longest[k], alone[k])
	}
	for before := 0; before <= longest[0]; before++ {
		for first := 1; first < longest[1]; first++ {
			for pause := 1 + (before+first)%stride; before+pause <= longest[0]; pause += stride {
				begin().play(t, before, first, pause)
			}
		}
	}
}

// scene returns a small database with two leaves, in which a snapshot is open at the time 2: then the entries are b, c and e.
func scene(t *testing.T) *database {
	t.Helper()
	d := of(t, put("a", "1", "b", "1", "c", "1", "d", "1", "e", "1"), put("a", "", "b", "2", "d", ""), put("c", "3", "e", ""))
	d.open(0, 0, 2)
	return d
}

// P20.4: each move among the accesses of a batch that writes, deletes, and splits a leaf, in many orders.
func TestMoveAndBatch(t *testing.T) {
	counts := map[string]int{}
	start := scene(t)
	for _, b := range [][]api.Write{put("bb", "1", "c", ""), put("d", "9", "dd", "9", "ddd", "9")} {
		for _, x := range sceneTasks() {
			playMany(t, func() *arena {
				return &arena{start.copy(), []actor{&writer{batches: [][]api.Write{b}}, &once{x: x}}, counts}
			})
		}
	}
	expectCounts(t, counts, map[string]int{"entries": 10000, "ends": 1000})
}

// P20.4: each move among the accesses of a pass of a vacuum that cuts chains and removes a slot, in many orders.
func TestMoveAndPass(t *testing.T) {
	counts := map[string]int{}
	start := scene(t)
	for _, x := range sceneTasks() {
		playMany(t, func() *arena {
			return &arena{start.copy(), []actor{&sweeper{left: 1}, &once{x: x}}, counts}
		})
	}
	expectCounts(t, counts, map[string]int{"entries": 5000, "ends": 500, "floors raised": 5000})
}

// sceneTasks returns moves from each position and from beside the entries at the time of the scene.
func sceneTasks() []task {
	list := []task{{2, front, api.MoveFirst, ""}, {2, front, api.MoveLast, ""}}
	for _, key := range []string{"a", "c", "d", "f"} {
		list = append(list, task{2, front, api.MoveSeek, key})
	}
	for _, key := range []string{"b", "c", "e"} {
		list = append(list, task{2, at(key), api.MoveNext, ""}, task{2, at(key), api.MovePrev, ""})
	}
	return list
}

// once makes a move.
type once struct {
	x    task
	now  *Move
	done bool
}

func (o *once) idle() bool { return o.done }

func (o *once) step(t *testing.T, a *arena) {
	if o.now == nil {
		o.now = o.x.start(a.database)
	}
	if o.done = a.database.step(t, o.now, false); o.done {
		a.expectFinished(t, "P20.4", o.x, o.now)
		if o.now.Position().Place == At {
			a.counts["entries"]++
		} else {
			a.counts["ends"]++
		}
	}
}
