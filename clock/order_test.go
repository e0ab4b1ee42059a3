package clock

import (
	"testing"

	"blinktree/api"
	"blinktree/layout"
	"blinktree/memory"
)

// batch is what a thread does with the clock: it allocates a timestamp and publishes it, unless none is left.
type batch struct {
	l        layout.Layout
	allocate *Allocate
	publish  *Publish
	time     uint64
	finished bool
}

func (b *batch) Step(m *memory.Memory) bool {
	switch {
	case b.finished:
	case b.publish != nil:
		b.finished = b.publish.Step(m)
	case b.allocate.Step(m):
		b.time, _ = b.allocate.Time()
		b.publish = NewPublish(b.l, b.time)
		b.finished = b.time == 0
	}
	return b.finished
}

// match is a memory and batches that use its clock. At its start, the timestamps up to first are published.
type match struct {
	l            layout.Layout
	m            *memory.Memory
	first, clock uint64
	batches      []*batch
}

// newMatch returns a match of n batches, for which there are timestamps from first + 1 to clock.
func newMatch(t *testing.T, first, clock uint64, n int) *match {
	t.Helper()
	l, m, err := layout.Start(api.Config{Threads: 1, Snapshots: 1, Nodes: 1, Chains: 1, Records: 1, Fanout: 4, Clock: clock})
	if err != api.OK {
		t.Fatal(err)
	}
	m.Poke(l.Allocated(), api.Cell{N: first})
	m.Poke(l.Published(), api.Cell{N: first})
	g := &match{l: l, m: m, first: first, clock: clock}
	for range n {
		g.batches = append(g.batches, &batch{l: l, allocate: NewAllocate(l)})
	}
	return g
}

// allocated and published return the timestamps.
func (g *match) allocated() uint64 { return g.m.Peek(g.l.Allocated()).N }
func (g *match) published() uint64 { return g.m.Peek(g.l.Published()).N }

// now returns what a Now finds.
func (g *match) now() uint64 {
	n := NewNow(g.l)
	n.Step(g.m)
	return n.Time()
}

// pick makes a step of a batch and returns what it has broken.
func (g *match) pick(k int) string {
	b := g.batches[k]
	finished, accesses, allocated, published := b.finished, g.m.Accesses(), g.allocated(), g.published()
	b.Step(g.m)
	made, publishes := g.m.Accesses()-accesses, !finished && b.finished && b.time != 0
	switch {
	case finished && made != 0 || !finished && made != 1:
		return "P2.4: a step does not make one access"
	case g.published() < published || g.published() > published+1:
		return "P6.4: Published decreases, or increases by more than one"
	case g.published() > g.allocated():
		return "P6.4: Published is greater than Allocated"
	case publishes != (g.published() != published):
		return "P6.2: a timestamp is published in another step than the last one"
	case publishes && g.published() != b.time:
		return "P6.2: another timestamp is published"
	case g.allocated() < allocated || g.allocated() > g.clock:
		return "P6.1: Allocated decreases, or is greater than the limit"
	case g.now() != g.published():
		return "P6.3: Now finds another timestamp"
	}
	return ""
}

// finished reports whether all batches have finished.
func (g *match) finished() bool {
	for _, b := range g.batches {
		if !b.finished {
			return false
		}
	}
	return true
}

// finish picks all batches in turn until they have finished, and once more, and returns what has been broken.
func (g *match) finish() string {
	// In two rounds, one more timestamp is allocated, or the next one is published.
	for round := 0; !g.finished(); round++ {
		if round > 4*len(g.batches) {
			return "P6.4: a batch does not finish"
		}
		if broken := g.round(); broken != "" {
			return broken
		}
	}
	if broken := g.round(); broken != "" {
		return broken
	}
	return g.judge()
}

// round picks each batch once.
func (g *match) round() string {
	for k := range g.batches {
		if broken := g.pick(k); broken != "" {
			return broken
		}
	}
	return ""
}

// judge returns what has been broken when all batches have finished: each timestamp that was left has been given to one of
// them, as long as there were batches, and published.
func (g *match) judge() string {
	owners := map[uint64]int{}
	for _, b := range g.batches {
		if b.time != 0 {
			owners[b.time]++
		}
	}
	count := min(uint64(len(g.batches)), g.clock-g.first)
	for n := range count {
		if owners[g.first+1+n] != 1 {
			return "P6.1: a timestamp is missing, or two batches have it"
		}
	}
	end := api.Cell{N: g.first + count}
	if uint64(len(owners)) != count || g.m.Peek(g.l.Allocated()) != end || g.m.Peek(g.l.Published()) != end {
		return "P6.4: Published does not become equal to Allocated"
	}
	return ""
}

// allOrders plays matches with all orders of their first picks, followed by fair ones.
func allOrders(t *testing.T, first, clock uint64, n, picks int) {
	t.Helper()
	orders := 1
	for range picks {
		orders *= n
	}
	for order := range orders {
		g := newMatch(t, first, clock, n)
		rest := order
		for range picks {
			if broken := g.pick(rest % n); broken != "" {
				t.Fatalf("%s: %d batches from %d to %d, order %d", broken, n, first, clock, order)
			}
			rest /= n
		}
		if broken := g.finish(); broken != "" {
			t.Fatalf("%s: %d batches from %d to %d, order %d", broken, n, first, clock, order)
		}
	}
}

// P6.4: one, two and three batches in all orders of so many picks as they need if nobody waits, and more.
func TestBatchesInAllOrders(t *testing.T) {
	allOrders(t, 0, 9, 1, 6)
	allOrders(t, 0, 9, 2, 12)
	allOrders(t, 0, 9, 3, 12)
}

// P6.1, P6.4: with few timestamps or none left, at small and at great ones.
func TestBatchesAtLimits(t *testing.T) {
	for _, clock := range []uint64{1, 2, 3, 4, 1 << 32, api.MaxClock} {
		for left := range min(clock, 4) + 1 {
			allOrders(t, clock-left, clock, 2, 9)
			allOrders(t, clock-left, clock, 3, 7)
		}
	}
}

// next returns the next state of a sequence of numbers that seem random.
func next(x uint64) uint64 { return x*6364136223846793005 + 1442695040888963407 }

// P6.4: many batches in many orders, in which some of them are picked far more often than others.
func TestManyBatches(t *testing.T) {
	const batches = 12
	for seed := range uint64(2000) {
		g := newMatch(t, 3*seed, 3*seed+seed%(batches+3)+1, batches)
		x := seed
		for range seed % 197 {
			x = next(x)
			if broken := g.pick(int(min(x>>33%batches, x>>41%batches))); broken != "" {
				t.Fatalf("%s: seed %d", broken, seed)
			}
		}
		if broken := g.finish(); broken != "" {
			t.Fatalf("%s: seed %d", broken, seed)
		}
	}
}

// allocateAll makes the steps of all batches up to their timestamps, in the order of their numbers.
func (g *match) allocateAll() {
	for _, b := range g.batches {
		for b.publish == nil {
			b.Step(g.m)
		}
	}
}

// mustPick makes a step of a batch, which must break nothing.
func (g *match) mustPick(t *testing.T, k int) {
	t.Helper()
	if broken := g.pick(k); broken != "" {
		t.Fatal(broken)
	}
}

// mustFinish picks all batches in turn until they have finished, which must break nothing.
func (g *match) mustFinish(t *testing.T) {
	t.Helper()
	if broken := g.finish(); broken != "" {
		t.Fatal(broken)
	}
}

// P6.2, P6.4: batches that publish in the opposite order of their timestamps: each waits for the one before.
func TestOppositeOrder(t *testing.T) {
	const batches = 9
	g := newMatch(t, 0, 50, batches)
	g.allocateAll()
	for range 3 {
		for k := batches - 1; k > 0; k-- {
			g.mustPick(t, k)
		}
	}
	if g.published() != 0 {
		t.Errorf("P6.2: Published is %d before 1 is published", g.published())
	}
	for range 2 * batches {
		for k := batches - 1; k >= 0; k-- {
			g.mustPick(t, k)
		}
	}
	if g.published() != batches {
		t.Errorf("P6.4: Published is %d, want %d", g.published(), batches)
	}
	g.mustFinish(t)
}

// pickWithout picks the batches in turn, many times, except for one of them.
func (g *match) pickWithout(t *testing.T, stopped int) {
	t.Helper()
	for range 20 {
		for k := range g.batches {
			if k != stopped {
				g.mustPick(t, k)
			}
		}
	}
}

// P6.2: a batch that is not picked holds up those behind it, and not those before it, even if it has seen its turn come.
func TestBatchThatStops(t *testing.T) {
	for stopped := range 5 {
		for steps := range 2 {
			g := newMatch(t, 0, 9, 5)
			g.allocateAll()
			g.pickWithout(t, stopped)
			for range steps {
				g.mustPick(t, stopped)
			}
			g.pickWithout(t, stopped)
			if g.published() != uint64(stopped) {
				t.Errorf("P6.2: Published is %d while %d is not published", g.published(), stopped+1)
			}
			g.mustFinish(t)
		}
	}
}

// P6.4: batches that begin while others wait to publish are given later timestamps, and all of them are published.
func TestBatchesThatBeginLater(t *testing.T) {
	g := newMatch(t, 0, 50, 3)
	for n := range uint64(6) {
		g.allocateAll()
		for k := 1; k < len(g.batches); k++ {
			g.mustPick(t, k)
		}
		if g.allocated() != n+3 || g.published() != 0 {
			t.Fatalf("P6.1: %d timestamps are allocated and %d published, want %d and 0", g.allocated(), g.published(), n+3)
		}
		g.batches = append(g.batches, &batch{l: g.l, allocate: NewAllocate(g.l)})
	}
	g.mustFinish(t)
}
