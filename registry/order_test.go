package registry

import (
	"slices"
	"testing"

	"blinktree/alloc"
	"blinktree/api"
	"blinktree/clock"
	"blinktree/layout"
	"blinktree/memory"
)

// actor is somebody who makes steps, one after the other. A step returns what it has broken.
type actor interface{ step(s *scene) string }

// scene is a memory and those who use it: owners of snapshots, Watermarks, and batches, which publish timestamps.
type scene struct {
	l       layout.Layout
	m       *memory.Memory
	owners  []*owner
	watches []*watch
	// greatest is the greatest watermark that has been determined. No snapshot that is or will be open has a timestamp below it.
	greatest uint64
}

// newScene returns a scene with the snapshots of some threads.
func newScene(t *testing.T, s shape, published uint64) *scene {
	t.Helper()
	l, m, err := layout.Start(api.Config{
		Threads: s.threads, Snapshots: s.snapshots, Nodes: 1, Chains: 1, Records: 1, Fanout: api.MinFanout, Clock: 1 << 20,
	})
	if err != api.OK {
		t.Fatal(err)
	}
	for _, i := range []int{l.Published(), l.Allocated()} {
		m.Poke(i, api.Cell{N: published})
	}
	c := &scene{l: l, m: m}
	for k := range s.threads * s.snapshots {
		c.owners = append(c.owners, &owner{thread: k / s.snapshots, j: k % s.snapshots})
	}
	return c
}

// published returns the last published timestamp.
func (c *scene) published() uint64 { return c.m.Peek(c.l.Published()).N }

// newWatch adds a Watermark.
func (c *scene) newWatch(repeat bool) *watch {
	w := &watch{repeat: repeat, machine: NewWatermark(c.l)}
	c.watches = append(c.watches, w)
	return w
}

// lookAt notes what a snapshot may count as for the Watermarks that are at work: none, or its timestamp.
func (c *scene) lookAt(o *owner) {
	for _, w := range c.watches {
		if w.begun {
			w.note(c.m.Peek(c.l.Snapshot(o.thread, o.j)).N)
		}
	}
}

// pick makes a step of somebody, which must be one access, and returns what has been broken.
func (c *scene) pick(a actor) string {
	accesses := c.m.Accesses()
	if broken := a.step(c); broken != "" {
		return broken
	}
	if c.m.Accesses() != accesses+1 {
		return "P2.4: a step does not make one access"
	}
	return ""
}

// live returns the timestamps of the snapshots that are open or being opened, as their owners know them.
func (c *scene) live() []uint64 {
	var list []uint64
	for _, o := range c.owners {
		switch {
		case o.open:
			list = append(list, o.time)
		case o.steps > 0:
			list = append(list, 0)
		}
	}
	slices.Sort(list)
	return list
}

// owner is a thread that opens and releases one of its snapshots again and again.
type owner struct {
	thread, j int
	opening   *Open
	steps     int // those of opening
	open      bool
	time      uint64
	loaded    uint64 // what Published was when opening took effect
}

func (o *owner) step(c *scene) string {
	defer c.lookAt(o)
	if o.open {
		o.open = false
		if r := NewRelease(c.l, o.thread, o.j); !r.Step(c.m) {
			return "P18.1: a Release does not finish with its only step"
		}
		return ""
	}
	if o.steps == 0 {
		o.opening = NewOpen(c.l, o.thread, o.j)
	}
	if o.steps == 1 {
		o.loaded = c.published()
	}
	o.steps++
	o.open = o.opening.Step(c.m)
	if o.open != (o.steps == 3) || o.opening.Marks() != min(o.steps-1, 1) {
		return "P18.1: an Open does not finish with its third step, or does not take effect with its second one"
	}
	if o.open {
		o.steps, o.time = 0, o.opening.Time()
		return o.judge(c)
	}
	return ""
}

// judge returns what an Open that has finished has broken.
func (o *owner) judge(c *scene) string {
	if o.time != o.loaded {
		return "P18.1: the timestamp is not what Published was in the second step"
	}
	if o.time < c.greatest {
		return "P18.3: a snapshot is opened below a watermark"
	}
	return ""
}

// watch is a Watermark, and what it may have loaded: Published in its first step, and from then on each cell.
type watch struct {
	machine   *Watermark
	repeat    bool
	begun     bool
	done      int // how often it has finished
	published uint64
	all       map[uint64]bool // the timestamps that a cell contained, and Published
	raise     *alloc.Raise
}

// note notes what a cell contains.
func (w *watch) note(n uint64) {
	if n != 0 {
		w.all[n-1] = true
	}
}

// begin notes what is there when the machine makes its first step.
func (w *watch) begin(c *scene) {
	w.begun, w.published, w.all = true, c.published(), map[uint64]bool{c.published(): true}
	for _, o := range c.owners {
		w.note(c.m.Peek(c.l.Snapshot(o.thread, o.j)).N)
	}
}

func (w *watch) step(c *scene) string {
	if w.raise != nil {
		if w.raise.Step(c.m) {
			w.raise, w.machine = nil, NewWatermark(c.l)
		}
		return ""
	}
	if !w.begun {
		w.begin(c)
	}
	if !w.machine.Step(c.m) {
		return ""
	}
	w.begun = false
	w.done++
	if w.repeat {
		w.raise = alloc.NewRaise(c.l.Floor(), w.machine.Time())
	}
	c.greatest = max(c.greatest, w.machine.Time())
	return w.judge(c)
}

// judge returns what a Watermark that has finished has broken.
func (w *watch) judge(c *scene) string {
	time := w.machine.Time()
	for _, o := range c.owners {
		if o.open && o.time < time {
			return "P18.3: a snapshot is open below the watermark"
		}
	}
	switch {
	case time > w.published:
		return "P18.2: the watermark is greater than Published"
	case !w.all[time]:
		return "P18.2: the watermark is no timestamp that a cell contained, nor Published"
	}
	return ""
}

// counter publishes timestamps at once, one in each step.
type counter struct{}

func (counter) step(c *scene) string {
	c.m.Store(c.l.Published(), api.Cell{N: c.published() + 1})
	return ""
}

// arrange calls a function with all orders of actors in which each makes its number of steps.
func arrange(left []int, order []int, do func(order []int)) {
	done := true
	for k := range left {
		if left[k] == 0 {
			continue
		}
		done = false
		left[k]--
		arrange(left, append(order, k), do)
		left[k]++
	}
	if done {
		do(order)
	}
}

// allOrders plays a scene, of which a function makes a new one each time, in all orders of the actors' steps.
func allOrders(t *testing.T, steps []int, begin func() (*scene, []actor)) {
	t.Helper()
	orders := 0
	watermarks := map[uint64]bool{}
	arrange(steps, nil, func(order []int) {
		c, actors := begin()
		for _, k := range order {
			if broken := c.pick(actors[k]); broken != "" {
				t.Fatalf("%s: order %v", broken, order)
			}
		}
		for _, w := range c.watches {
			if w.done != 1 {
				t.Fatal("P18.2: a Watermark does not finish")
			}
			watermarks[w.machine.Time()] = true
		}
		orders++
	})
	if orders < 1000 || len(watermarks) < 3 {
		t.Errorf("the test does too little: %d orders with %d watermarks", orders, len(watermarks))
	}
}

// P18.3: a snapshot that is opened, released and opened again while timestamps are published and a Watermark runs, in all orders.
func TestOneSnapshotInAllOrders(t *testing.T) {
	allOrders(t, []int{2, 7, 3}, func() (*scene, []actor) {
		c := newScene(t, shape{1, 1}, 5)
		return c, []actor{c.newWatch(false), c.owners[0], counter{}}
	})
}

// P18.3: two snapshots that are opened meanwhile, in all orders.
func TestTwoOpensInAllOrders(t *testing.T) {
	allOrders(t, []int{3, 3, 3, 2}, func() (*scene, []actor) {
		c := newScene(t, shape{2, 1}, 5)
		return c, []actor{c.newWatch(false), c.owners[0], c.owners[1], counter{}}
	})
}

// P18.3: a snapshot that is opened and released, and one that is open, released and opened again, in all orders.
func TestReleasesInAllOrders(t *testing.T) {
	allOrders(t, []int{3, 4, 4, 1}, func() (*scene, []actor) {
		c := newScene(t, shape{1, 2}, 3)
		for range 3 {
			c.owners[1].step(c)
		}
		counter{}.step(c)
		return c, []actor{c.newWatch(false), c.owners[0], c.owners[1], counter{}}
	})
}

// P18.3: two Watermarks that run at the same time, in all orders.
func TestTwoWatermarksInAllOrders(t *testing.T) {
	allOrders(t, []int{2, 2, 4, 3}, func() (*scene, []actor) {
		c := newScene(t, shape{1, 1}, 5)
		return c, []actor{c.newWatch(false), c.newWatch(false), c.owners[0], counter{}}
	})
}

// writer allocates a timestamp and publishes it, again and again, as batches do.
type writer struct {
	allocate *clock.Allocate
	publish  *clock.Publish
}

func (w *writer) step(c *scene) string {
	switch {
	case w.publish != nil:
		if w.publish.Step(c.m) {
			w.publish, w.allocate = nil, nil
		}
	case w.allocate == nil:
		w.allocate = clock.NewAllocate(c.l)
		w.allocate.Step(c.m)
	case w.allocate.Step(c.m):
		time, _ := w.allocate.Time()
		w.publish = clock.NewPublish(c.l, time)
	}
	return ""
}

// survey returns what is wrong between two picks.
func (c *scene) survey() string {
	floor := c.m.Peek(c.l.Floor()).N
	for _, o := range c.owners {
		if o.open && o.time < floor {
			return "P18.3: the floor, which has been raised to a watermark, is greater than the timestamp of an open snapshot"
		}
	}
	if floor > c.published() {
		return "P18.3: the floor, which has been raised to a watermark, is greater than Published"
	}
	if live := Live(c.l, c.m); !slices.Equal(live, c.live()) {
		return "P18.4: Live is not the timestamps of the open snapshots"
	}
	return ""
}

// alone returns what a Watermark breaks while nothing else happens.
func (c *scene) alone() string {
	w := NewWatermark(c.l)
	for range c.owners {
		w.Step(c.m)
	}
	if !w.Step(c.m) {
		return "P18.2: a Watermark does not finish"
	}
	want := c.published()
	if live := c.live(); len(live) > 0 {
		want = min(want, live[0])
	}
	if w.Time() != want {
		return "P18.3: the watermark is not the least timestamp of all open snapshots and Published"
	}
	return ""
}

// newCrowd returns a scene of many owners, writers and Watermarks, and all of them.
func newCrowd(t *testing.T, s shape) (*scene, []actor) {
	t.Helper()
	c := newScene(t, s, 0)
	var actors []actor
	for _, o := range c.owners {
		actors = append(actors, o)
	}
	for range 3 {
		actors = append(actors, c.newWatch(true), &writer{}, &writer{})
	}
	return c, actors
}

// play makes many picks, and returns what has been broken. Some are picked far more often than others, and some not at all for a while.
func (c *scene) play(actors []actor, seed uint64) string {
	weights := make([]uint64, len(actors))
	state := next(seed)
	for n := range 1000 {
		if n%50 == 0 {
			for k := range weights {
				state = next(state)
				weights[k] = (state >> 33 % 3) * (state >> 41 % 9)
			}
		}
		state = next(state)
		if broken := c.pick(actors[chosen(weights, state>>33)]); broken != "" {
			return broken
		}
		if broken := c.survey(); broken != "" {
			return broken
		}
		if broken := c.alone(); broken != "" {
			return broken
		}
	}
	return ""
}

// P18.3, P18.4: many of all of them in many orders.
func TestCrowds(t *testing.T) {
	finished, raised := 0, 0
	for seed := range uint64(1500) {
		c, actors := newCrowd(t, shape{1 + int(seed%4), 1 + int(seed/4%3)})
		if broken := c.play(actors, seed); broken != "" {
			t.Fatalf("%s: seed %d", broken, seed)
		}
		for _, w := range c.watches {
			finished += w.done
		}
		if c.m.Peek(c.l.Floor()).N > 0 {
			raised++
		}
	}
	if finished < 15000 || raised < 600 {
		t.Errorf("the test does too little: %d Watermarks finish, %d floors are raised", finished, raised)
	}
}

// chosen returns the place of a weight, the more often the greater it is.
func chosen(weights []uint64, n uint64) int {
	sum := uint64(0)
	for _, w := range weights {
		sum += w
	}
	n %= max(sum, 1)
	for k, w := range weights {
		if n < w {
			return k
		}
		n -= w
	}
	return 0
}
