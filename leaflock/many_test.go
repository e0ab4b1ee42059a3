package leaflock

import (
	"slices"
	"testing"
)

// P12.1, P12.2: many callers, each of which locks several leaves at once, in many orders. They split leaves and inner nodes, and post
// the separators at some time. All of them finish, and all keys are there.
func TestManyCallers(t *testing.T) {
	right := 0
	for seed := range 40 {
		g := &tree{x: uint64(seed)}
		a := newArena(t, 80, 6, []string{""}, nil)
		var want []string
		for range 60 {
			list := g.some(probes(), g.roll(4)+1)
			a.add(g.roll(2) == 0, list...)
			want = append(want, list...)
		}
		crowd(t, a, g)
		a.finish(t, turns(len(a.callers))[seed], merged(want))
		for _, went := range a.rights {
			if went {
				right++
			}
		}
	}
	if right < 100 {
		t.Errorf("the test does too little: %d Locks go to the right", right)
	}
}

// crowd picks callers in an order that seems random, a few of them at any time, until most of them have finished.
func crowd(t *testing.T, a *arena, g *tree) {
	t.Helper()
	var active []int
	for next, picks := 0, 0; next < len(a.callers); picks++ {
		if picks > 1000000 {
			t.Fatal("P12.2: the callers wait for each other")
		}
		if len(active) < 8 {
			active = append(active, next)
			next++
		}
		k := min(g.roll(len(active)), g.roll(len(active)))
		a.picks(t, active[k], 1)
		if a.callers[active[k]].now == nil {
			active = slices.Delete(active, k, k+1)
		}
	}
}
