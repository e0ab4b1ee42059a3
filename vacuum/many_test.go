package vacuum

import (
	"testing"

	"blinktree/api"
	"blinktree/read"
)

// expectCounts reports an error if something has not happened often enough.
func expectCounts(t *testing.T, counts map[string]int, least map[string]int) {
	t.Helper()
	for what, n := range least {
		if counts[what] < n {
			t.Errorf("the test does too little: %d %s", counts[what], what)
		}
	}
}

// newCrowd returns a generated database in which no snapshot is open, with some writers, sweepers, keepers and visitors.
func newCrowd(t *testing.T, seed int, counts map[string]int) *arena {
	t.Helper()
	g := newDice(seed)
	d := newDatabase(t, seed)
	for thread := range 2 {
		for j := range 2 {
			d.set(d.l.Snapshot(thread, j), 0)
		}
	}
	some := shuffled(g, universe())[:[]int{2, 9, 60}[seed%3]]
	var actors []actor
	for range 1 + g.roll(4) {
		w := &writer{}
		for range 8 {
			w.batches = append(w.batches, g.batch(some, g.roll(min(len(some), 6)+1)))
		}
		actors = append(actors, w)
	}
	for range 1 + g.roll(3) {
		actors = append(actors, &sweeper{left: 3})
	}
	for k := range g.roll(5) {
		actors = append(actors, &keeper{dice: g, thread: k / 2, j: k % 2, keys: some, left: 3})
	}
	for range g.roll(4) {
		actors = append(actors, &visitor{dice: g, keys: some, left: 12})
	}
	return newArena(d, counts, actors...)
}

// P19.1 to P19.4: many passes beside batches, snapshots and reads, in orders that seem random. Some actors are much slower than others, and
// some are not picked at all for a while.
func TestManyActors(t *testing.T) {
	counts := map[string]int{}
	for seed := range 150 {
		g := newDice(seed + 1000)
		a := newCrowd(t, seed, counts)
		slow := make([]int, len(a.actors))
		for n := 0; ; n++ {
			list := a.working()
			if len(list) == 0 {
				break
			}
			if n > 400000 {
				t.Fatal("P19.2: the actors wait for each other")
			}
			if n%40 == 0 {
				for k := range slow {
					slow[k] = 1 + g.roll(12)*g.roll(2)
				}
			}
			if k := list[g.roll(len(list))]; g.roll(slow[k]) == 0 {
				a.pick(t, k)
			}
			if n%64 == 0 {
				a.look(t, g.between(a.floor(), a.published()))
			}
		}
		a.end(t)
	}
	expectCounts(t, counts, map[string]int{
		"passes": 500, "floors raised": 200, "snapshots": 500, "looks": 2000,
		"answers 0": 500, "answers 3": 500, "answers 4": 50, "answers 5": 50,
	})
}

// P19.2: in turn, all actors come to an end.
func TestInTurn(t *testing.T) {
	counts := map[string]int{}
	for seed := range 40 {
		a := newCrowd(t, seed, counts)
		for n := 0; ; n++ {
			list := a.working()
			if len(list) == 0 {
				break
			}
			if n > 100000 {
				t.Fatal("P19.2: the actors wait for each other")
			}
			a.pick(t, list[n%len(list)])
		}
		a.end(t)
	}
	expectCounts(t, counts, map[string]int{"passes": 150, "snapshots": 100})
}

// enough is a number of steps with which each actor of the following scenes comes to an end if it does not have to wait.
const enough = 400

// play picks two actors in turn, each for some steps, and after that until both are idle. It returns how many steps both have made.
func (a *arena) play(t *testing.T, turns ...int) [2]int {
	t.Helper()
	var made [2]int
	for i, turn := range append(turns, enough, enough, enough) {
		k := i % 2
		for n := 0; n < turn && !a.actors[k].idle(); n++ {
			a.pick(t, k)
			made[k]++
		}
	}
	if len(a.working()) > 0 {
		t.Fatal("P19.2: two actors wait for each other")
	}
	a.end(t)
	return made
}

// playMany plays a scene, which begin returns, in many orders in which the second actor is interrupted at most twice.
func playMany(t *testing.T, begin func() *arena) {
	t.Helper()
	const stride = 16
	longest := begin().play(t)
	alone := begin().play(t, 0, enough)
	for k := range longest {
		longest[k] = max(longest[k], alone[k])
	}
	for before := 0; before <= longest[0]; before++ {
		for first := 1; first < longest[1]; first++ {
			for pause := 1 + (before+first)%stride; before+pause <= longest[0]; pause += stride {
				begin().play(t, before, first, pause)
			}
		}
	}
}

// P19.2 to P19.4: a pass among the accesses of a batch that splits leaves, writes keys and deletes them, in many orders.
func TestPassAndBatch(t *testing.T) {
	counts := map[string]int{}
	for _, b := range [][]api.Write{put("a", "9", "b", ""), put("ab", "1"), put("b", "9", "c", "9"), put("d", "", "e", "")} {
		start := of(t, put("a", "1", "b", "1", "c", "1", "d", "1"), put("a", "2", "c", ""), put("c", "3", "d", ""))
		playMany(t, func() *arena {
			return newArena(start.copy(), counts, &writer{batches: [][]api.Write{b}}, &sweeper{left: 1})
		})
	}
	expectCounts(t, counts, map[string]int{"floors raised": 1000})
}

// sequence is an actor that is one actor after the other.
type sequence struct{ list []actor }

func (s *sequence) idle() bool {
	for len(s.list) > 0 && s.list[0].idle() {
		s.list = s.list[1:]
	}
	return len(s.list) == 0
}

func (s *sequence) step(t *testing.T, a *arena) { s.list[0].step(t, a) }

// P19.2 to P19.4: two passes at once in many orders, with the same watermark and, because of a batch that is published before one of them
// begins, with different ones.
func TestTwoPasses(t *testing.T) {
	counts := map[string]int{}
	start := of(t, put("a", "1", "b", "1"), put("a", "2", "c", ""), put("b", "", "d", "1"), put("a", "3", "e", "1", "f", "1"))
	playMany(t, func() *arena {
		return newArena(start.copy(), counts, &sweeper{left: 1}, &sweeper{left: 1})
	})
	playMany(t, func() *arena {
		return newArena(start.copy(), counts,
			&sequence{[]actor{&writer{batches: [][]api.Write{put("a", "", "d", "2")}}, &sweeper{left: 1}}}, &sweeper{left: 1})
	})
	expectCounts(t, counts, map[string]int{"floors raised": 800, "passes": 1500})
}

// P19.1, P19.3: a read of a key among the accesses of a pass that removes what it has to see, or only what it need not, in many orders.
func TestPassAndRead(t *testing.T) {
	counts := map[string]int{}
	for _, last := range []string{"", "3"} {
		start := of(t, put("a", "1", "b", "1", "c", "1", "d", "1", "e", "1"), put("b", "2", "c", ""), put("b", last))
		for time := range uint64(5) {
			playMany(t, func() *arena {
				d := start.copy()
				r := &reader{key: "b", machine: read.NewGet(d.l, "b")}
				if time < 4 {
					r = &reader{key: "b", at: true, time: time, machine: read.NewGetAt(d.l, "b", time)}
				}
				return newArena(d, counts, &sweeper{left: 1}, &visitor{left: 1, now: r})
			})
		}
	}
	expectCounts(t, counts, map[string]int{"answers 0": 500, "answers 3": 500, "answers 5": 500})
}

// arrange calls a function with all orders of actors in which each makes its number of steps.
func arrange(left []int, order []int, do func(order []int)) {
	done := true
	for k := range left {
		if left[k] == 0 {
			continue
		}
		done = false
		left[k]--
		arrange(left, append(order, k), do)
		left[k]++
	}
	if done {
		do(order)
	}
}

// P19.1, P19.4: a pass determines the watermark and raises the floor while two snapshots are opened and released and a batch is published,
// in all orders of some of their steps, each followed by the others.
func TestSnapshotsInAllOrders(t *testing.T) {
	counts := map[string]int{}
	c := small()
	c.Snapshots = 2
	start := empty(t, c)
	start.apply(t, put("a", "1"))
	start.apply(t, put("a", "2"))
	start.set(start.l.Floor(), 1)
	for _, steps := range [][]int{{5, 4, 0, 2}, {6, 3, 3, 0}, {5, 3, 1, 1}} {
		arrange(steps, nil, func(order []int) {
			g := newDice(0)
			// Only the allocation and the publication of this batch are left for the order.
			w := &writer{batches: [][]api.Write{nil}}
			a := newArena(start.copy(), counts,
				&sweeper{left: 1}, &keeper{dice: g, keys: []string{"a"}, left: 2}, &keeper{dice: g, j: 1, keys: []string{"a"}, left: 1}, w)
			for _, k := range order {
				if !a.actors[k].idle() {
					a.pick(t, k)
				}
			}
			for list := a.working(); len(list) > 0; list = a.working() {
				a.pick(t, list[0])
			}
			a.end(t)
		})
	}
	expectCounts(t, counts, map[string]int{"floors raised": 1000})
}
