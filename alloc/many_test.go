package alloc

import (
	"math"
	"testing"

	"blinktree/memory"
)

// player is a machine with the judgement of its steps.
type player struct {
	machine
	finished bool
	// judge returns what a step that changed the counter from before to after has broken; done says whether it was the last.
	judge func(done bool, before, after uint64) string
	// number returns the number that the machine has taken, or 0.
	number func() uint64
}

// taker returns a player that takes a number.
func taker(limit uint64) *player {
	x := NewTake(counterCell, limit)
	judge := func(done bool, before, after uint64) string {
		n, ok := x.Number()
		switch {
		case !done && (n != 0 || ok || after != before):
			return "P5.1: it takes effect before its last step"
		case done && before >= limit && (n != 0 || ok || after != before):
			return "P5.1: a number above the limit"
		case done && before < limit && (n != before+1 || !ok || after != n):
			return "P5.1: not the next number"
		}
		return ""
	}
	return &player{machine: x, judge: judge, number: func() uint64 { n, _ := x.Number(); return n }}
}

// raiser returns a player that raises the counter.
func raiser(to uint64) *player {
	x := NewRaise(counterCell, to)
	judge := func(done bool, before, after uint64) string {
		switch {
		case !done && (x.Raised() || after != before):
			return "P5.2: it takes effect before its last step"
		case done && before >= to && (x.Raised() || after != before):
			return "P5.2: a counter that is large enough is changed"
		case done && before < to && (!x.Raised() || after != to):
			return "P5.2: a counter that is too small is not raised"
		}
		return ""
	}
	return &player{machine: x, judge: judge, number: func() uint64 { return 0 }}
}

// takers returns players that take numbers up to the same limit.
func takers(n int, limit uint64) func() []*player {
	return func() []*player {
		var all []*player
		for range n {
			all = append(all, taker(limit))
		}
		return all
	}
}

// raisers returns players that raise the counter to the given numbers.
func raisers(to ...uint64) func() []*player {
	return func() []*player {
		var all []*player
		for _, n := range to {
			all = append(all, raiser(n))
		}
		return all
	}
}

// match is a memory with a counter, and the players that use it.
type match struct {
	m       *memory.Memory
	start   uint64
	players []*player
}

// newMatch returns a match whose counter has the value start.
func newMatch(t *testing.T, start uint64, players func() []*player) *match {
	t.Helper()
	return &match{m: filled(t, start), start: start, players: players()}
}

// pick makes a step of a player and returns what it has broken.
func (g *match) pick(k int) string {
	p := g.players[k]
	before, accesses := g.m.Peek(counterCell).N, g.m.Accesses()
	done := p.Step(g.m)
	after, made := g.m.Peek(counterCell), g.m.Accesses()-accesses
	switch {
	case after != with(after.N) || g.m.Peek(cellBefore) != with(50) || g.m.Peek(cellBehind) != with(60):
		return "P5.3: something else than the counter is changed"
	case after.N < before:
		return "P5.3: the counter decreases"
	case p.finished && (!done || made != 0 || after.N != before):
		return "P2.4: a step of a finished machine"
	case p.finished:
		return ""
	case made != 1:
		return "P2.4: a step does not make one access"
	}
	p.finished = done
	return p.judge(done, before, after.N)
}

// finished reports whether all players have finished.
func (g *match) finished() bool {
	for _, p := range g.players {
		if !p.finished {
			return false
		}
	}
	return true
}

// finish picks all players in turn until all of them must have finished.
func (g *match) finish() string {
	for range 2*len(g.players) + 1 {
		for k := range g.players {
			if broken := g.pick(k); broken != "" {
				return broken
			}
		}
	}
	if !g.finished() {
		return "P5.3: a machine does not finish"
	}
	return ""
}

// taken returns how many numbers have been taken, or what is broken if they are not the ones that follow the start. Only
// players that take numbers may have changed the counter.
func (g *match) taken() (uint64, string) {
	owners := map[uint64]int{}
	for _, p := range g.players {
		if n := p.number(); n != 0 {
			owners[n]++
		}
	}
	count := uint64(len(owners))
	for k := range count {
		if owners[g.start+1+k] != 1 {
			return count, "P5.3: a number is missing, or two machines have it"
		}
	}
	if g.m.Peek(counterCell).N != g.start+count {
		return count, "P5.3: the counter is not the last number"
	}
	return count, ""
}

// allOrders plays a match in all orders in which players that have not finished can be picked, judges each of them by end,
// and returns how many there are.
func allOrders(t *testing.T, start uint64, players func() []*player, end func(g *match) string) int {
	t.Helper()
	orders := 0
	var extend func(order []int)
	extend = func(order []int) {
		g := newMatch(t, start, players)
		for _, k := range order {
			if broken := g.pick(k); broken != "" {
				t.Fatalf("%s: picks %v", broken, order)
			}
		}
		// Two steps of a player that are in vain mean that another one has finished in between.
		if n := len(g.players); len(order) > 2*n*n {
			t.Fatalf("P5.3: not finished: picks %v", order)
		}
		for k, p := range g.players {
			if !p.finished {
				extend(append(order[:len(order):len(order)], k))
			}
		}
		if g.finished() {
			orders++
			if broken := end(g); broken != "" {
				t.Fatalf("%s: picks %v", broken, order)
			}
		}
	}
	extend(nil)
	return orders
}

// expectOrders reports an error if a match was not played in several orders, which would say nothing.
func expectOrders(t *testing.T, got, least int) {
	t.Helper()
	if got < least {
		t.Errorf("only %d orders", got)
	}
}

// P5.3: two and three machines that take numbers, in all orders, with all limits from no number to more than needed.
func TestTakersInAllOrders(t *testing.T) {
	for n := 2; n <= 3; n++ {
		for _, start := range []uint64{0, 4, 1 << 40, math.MaxUint64 - 5} {
			for left := range uint64(n + 2) {
				orders := allOrders(t, start, takers(n, start+left), func(g *match) string {
					count, broken := g.taken()
					if broken == "" && count != min(left, uint64(n)) {
						return "P5.3: numbers are left, or too many are taken"
					}
					return broken
				})
				expectOrders(t, orders, n)
			}
		}
	}
}

// P5.3: no number is greater than the limit of the machine that takes it, if the limits are different.
func TestTakersWithDifferentLimits(t *testing.T) {
	limits := []uint64{1, 3, 2}
	players := func() []*player {
		var all []*player
		for _, limit := range limits {
			all = append(all, taker(limit))
		}
		return all
	}
	orders := allOrders(t, 0, players, func(g *match) string {
		for k, p := range g.players {
			if p.number() > limits[k] {
				return "P5.3: a number above the limit"
			}
		}
		_, broken := g.taken()
		return broken
	})
	expectOrders(t, orders, 100)
}

// P5.3: two and three machines that raise the counter, in all orders: it becomes the greatest number, or stays.
func TestRaisersInAllOrders(t *testing.T) {
	for _, to := range [][]uint64{
		{20, 15}, {15, 20}, {7, 7}, {0, 9}, {1, math.MaxUint64}, {1, 2, 3}, {3, 2, 1}, {2, 3, 1}, {5, 5, 5}, {5, 1 << 40, 5},
	} {
		for _, start := range []uint64{0, 1, 2, 5, 17, math.MaxUint64} {
			want := start
			for _, n := range to {
				want = max(want, n)
			}
			orders := allOrders(t, start, raisers(to...), func(g *match) string {
				if g.m.Peek(counterCell).N != want {
					return "P5.3: the counter is not the greatest number"
				}
				return ""
			})
			expectOrders(t, orders, len(to))
		}
	}
}

// P5.1 to P5.3: machines of both kinds with one counter, in all orders: the numbers are different all the same.
func TestBothInAllOrders(t *testing.T) {
	players := func() []*player { return []*player{taker(6), raiser(5), taker(9)} }
	for start := range uint64(8) {
		orders := allOrders(t, start, players, func(g *match) string {
			first, second := g.players[0].number(), g.players[2].number()
			if first == second || g.m.Peek(counterCell).N < 5 {
				return "P5.3: the same number twice, or the counter is too small"
			}
			return ""
		})
		expectOrders(t, orders, 3)
	}
}

// next returns the next state of a sequence of numbers that seem random.
func next(x uint64) uint64 { return x*6364136223846793005 + 1442695040888963407 }

// P5.3: many machines in many orders, in which some of them are picked far more often than others.
func TestManyMachines(t *testing.T) {
	const machines = 12
	for seed := range uint64(2000) {
		left := seed % (machines + 3)
		g := newMatch(t, 3*seed, takers(machines, 3*seed+left))
		x := seed
		for range seed % 97 {
			x = next(x)
			if broken := g.pick(int(min(x>>33%machines, x>>41%machines))); broken != "" {
				t.Fatalf("%s: seed %d", broken, seed)
			}
		}
		if broken := g.finish(); broken != "" {
			t.Fatalf("%s: seed %d", broken, seed)
		}
		if count, broken := g.taken(); broken != "" || count != min(left, machines) {
			t.Fatalf("%s: seed %d: %d numbers are taken, %d were left", broken, seed, count, left)
		}
	}
}

// P5.3: many machines that raise the counter to numbers in a mixed order; some of the numbers occur twice.
func TestManyRaisers(t *testing.T) {
	const machines = 12
	for seed := range uint64(2000) {
		x, want := seed, 2*seed
		var to []uint64
		for range machines {
			x = next(x)
			to = append(to, 2*seed+x>>33%9)
			want = max(want, to[len(to)-1])
		}
		g := newMatch(t, 2*seed, raisers(to...))
		for range seed % 97 {
			x = next(x)
			if broken := g.pick(int(x >> 33 % machines)); broken != "" {
				t.Fatalf("%s: seed %d", broken, seed)
			}
		}
		if broken := g.finish(); broken != "" || g.m.Peek(counterCell).N != want {
			t.Fatalf("%s: seed %d: %d, want %d", broken, seed, g.m.Peek(counterCell).N, want)
		}
	}
}

// P5.3: a machine that is never picked again after its first access holds up nobody.
func TestMachineThatStops(t *testing.T) {
	g := newMatch(t, 0, takers(5, 9))
	for k := range g.players {
		g.pick(k)
	}
	for range 20 {
		for k := 1; k < len(g.players); k++ {
			if broken := g.pick(k); broken != "" {
				t.Fatal(broken)
			}
		}
	}
	if count, broken := g.taken(); broken != "" || count != 4 || g.players[0].finished {
		t.Errorf("%s: %d numbers are taken", broken, count)
	}
	if broken := g.finish(); broken != "" || g.players[0].number() != 5 {
		t.Errorf("%s: the last number is %d", broken, g.players[0].number())
	}
}
