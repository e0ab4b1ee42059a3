package leaflock

import (
	"slices"
	"testing"
)

// merged returns all keys of some lists in ascending order, each of them once.
func merged(lists ...[]string) []string {
	all := slices.Concat(lists...)
	slices.Sort(all)
	return slices.Compact(all)
}

// turns returns fair orders for n callers: each begins with another one, forwards and backwards, and some of them pick one caller far
// more often than the others.
func turns(n int) [][]int {
	var all [][]int
	for first := range n {
		var forward, backward, often []int
		for k := range n {
			forward = append(forward, (first+k)%n)
			backward = append(backward, (first+n-k)%n)
			often = append(often, first, (first+k)%n, first, first)
		}
		all = append(all, forward, backward, often)
	}
	return all
}

// duel is two callers that enter keys into leaves with these low keys and keys.
type duel struct {
	lows, keys    []string
	first, second []string
}

// begin returns the arena of a duel.
func (d duel) begin(t *testing.T, backwards bool) *arena {
	t.Helper()
	a := newArena(t, 12, 1, d.lows, d.keys)
	a.add(backwards, d.first...)
	a.add(!backwards, d.second...)
	return a
}

// length returns how many steps a caller makes if the other one makes none.
func (d duel) length(t *testing.T, k int) int {
	t.Helper()
	a := d.begin(t, false)
	steps := 0
	for a.callers[k].now != nil {
		a.picks(t, k, 1)
		steps++
	}
	return steps
}

// P12.1, P12.2: two callers that split the same full leaf, so that one of them finds its key moved to the right, after each number of
// steps of both, in different orders of the next five picks, and then in turns.
func TestTwoCallersOfOneLeaf(t *testing.T) {
	right, fair := 0, turns(2)
	full := []string{"b", "d", "f", "h"}
	for _, d := range []duel{
		{[]string{""}, full, []string{"c"}, []string{"g"}},
		{[]string{""}, full, []string{"e"}, []string{"i"}},
		{[]string{"", "k"}, append(full, "k", "l", "m", "n"), []string{"i"}, []string{"a", "o"}},
	} {
		n := 0
		for first := range d.length(t, 0) {
			for second := range d.length(t, 1) {
				order := 1<<5 | n*11%32
				right += d.play(t, first, second, order, fair[n%len(fair)])
				n++
			}
		}
	}
	if right < 300 {
		t.Errorf("the test does too little: %d Locks go to the right", right)
	}
}

// P12.1, P12.2: two callers around the time at which one of them splits the leaf and the other one locks it, in all orders of ten picks.
func TestTwoCallersInAllOrders(t *testing.T) {
	right, fair := 0, turns(2)
	d := duel{[]string{""}, []string{"b", "d", "f", "h"}, []string{"c"}, []string{"i"}}
	// Each of them has come to the leaf after 7 steps, has read it after 16, and has locked it after 18; the first one has read it again
	// after 25, has written the new leaf after 33 and the old one after 40, and has released both after 42.
	for _, first := range []int{16, 24, 33, 38} {
		for _, second := range []int{7, 15, 16, 18} {
			for order := range 1 << 10 {
				right += d.play(t, first, second, 1<<10|order, fair[order%len(fair)])
			}
		}
	}
	if right < 300 {
		t.Errorf("the test does too little: %d Locks go to the right", right)
	}
}

// play makes some steps of the first caller and of the second one, then one pick for each bit of order but the highest, and then fair
// picks until both have finished. It returns how many Locks have gone to the right.
func (d duel) play(t *testing.T, first, second, order int, fair []int) int {
	t.Helper()
	a := d.begin(t, order&1 == 1)
	a.picks(t, 0, first)
	a.picks(t, 1, second)
	for ; order > 1; order >>= 1 {
		a.picks(t, order&1, 1)
	}
	a.finish(t, fair, merged(d.keys, d.first, d.second))
	right := 0
	for _, went := range a.rights {
		if went {
			right++
		}
	}
	return right
}

// P12.2: three callers that lock overlapping leaves from the left to the right, after each number of steps of one of them, and each third
// number of another one: none waits for ever.
func TestThreeCallersOfSeveralLeaves(t *testing.T) {
	lows, keys := []string{"", "h", "p"}, []string{"b", "d", "f", "h", "j", "l", "n", "p"}
	lists := [][]string{{"c", "k"}, {"i", "q"}, {"e", "r"}}
	fair := turns(3)
	for n, first := 0, 0; first < 90; first += 3 {
		for second := 0; second < 90; second++ {
			a := newArena(t, 16, 1, lows, keys)
			for i, list := range lists {
				a.add((first+i)%2 == 0, list...)
			}
			a.picks(t, n%3, first)
			a.picks(t, (n+1)%3, second)
			a.finish(t, fair[n%len(fair)], merged(append(lists, keys)...))
			n++
		}
	}
}

// P12.2: a caller that stops while it has locked a leaf stops only those that need this leaf. Those come to it from the left and have
// nothing but their own leaves locked, so that others go on.
func TestCallerThatStops(t *testing.T) {
	lows, keys := []string{"", "h", "p"}, []string{"b", "h", "i", "j", "k", "p"}
	for steps := range 60 {
		a := newArena(t, 16, 1, lows, keys)
		a.add(false, "l")
		for a.owned(0) == 0 {
			a.picks(t, 0, 1)
		}
		a.add(false, "m")
		a.add(true, "ha", "q")
		a.picks(t, 1, steps)
		a.picks(t, 2, 2*patience)
		a.picks(t, 1, patience)
		a.add(false, "c")
		a.add(false, "r")
		a.picks(t, 3, patience)
		a.picks(t, 4, patience)
		waits := []bool{true, true, true, false, false}
		for k, want := range waits {
			if got := a.callers[k].now != nil; got != want {
				t.Fatalf("P12.2: caller %d waits: %t, want %t", k, got, want)
			}
		}
		a.finish(t, []int{0, 1, 2}, merged(keys, []string{"c", "ha", "l", "m", "q", "r"}))
	}
}

// P12.2: a Lock that has to go to the right while the right sibling is locked leaves the left one to others.
func TestLeftLeafStaysFree(t *testing.T) {
	keys := []string{"b", "d", "f", "h"}
	for steps := range 17 {
		a := newArena(t, 12, 1, []string{""}, keys)
		a.add(false, "e")
		a.add(false, "i")
		a.picks(t, 1, steps)
		for splits := 0; splits < 2 || a.owned(0) == 2; splits = max(splits, a.owned(0)) {
			a.picks(t, 0, 1)
		}
		if a.owner[1] != free || a.owned(0) != 1 {
			t.Fatal("the left part is not the only one that is released")
		}
		a.picks(t, 1, patience)
		a.add(false, "a")
		a.picks(t, 2, patience)
		if a.callers[1].now == nil || a.callers[2].now != nil {
			t.Fatal("P12.2: a Lock that waits has the left leaf locked")
		}
		a.finish(t, []int{1, 0}, merged(keys, []string{"a", "e", "i"}))
	}
}
