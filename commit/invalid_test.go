package commit

import (
	"math"
	"slices"
	"strings"
	"testing"

	"blinktree/api"
	"blinktree/memory"
)

// finishes reports an error if an Apply does not finish, or makes a step of more than one access.
func finishes(t *testing.T, m *memory.Memory, a *Apply) {
	t.Helper()
	for range patience {
		accesses := m.Accesses()
		finished := a.Step(m)
		if m.Accesses() > accesses+1 {
			t.Fatal("P2.4: more than one access in a step")
		}
		if a.Marks() < 0 || a.Marks() > 1 {
			t.Fatalf("P16.4: Marks is %d", a.Marks())
		}
		if finished {
			return
		}
	}
	t.Fatal("rule 1: an Apply does not finish")
}

// Rule 1: with batches that are not normal, too, a machine finishes, and it leaves a valid tree and no latch locked.
func TestInvalid(t *testing.T) {
	many := writes("abcdefghijklmnopqrstuvwxyz", "1")
	reversed := slices.Clone(many[:api.MaxBatch])
	slices.Reverse(reversed)
	for _, b := range [][]api.Write{
		{put("b", "1"), put("a", "1")},
		{put("a", "1"), put("a", "2")},
		{put("a", "1"), {Key: "a", Delete: true}, put("a", "3"), put("", "4")},
		{put("o", "1"), put("a", "2"), put("o", "3"), put("f", "4"), put("b", "5"), put("n", "6")},
		{{Key: "a", Value: "1", Delete: true}},
		{put(strings.Repeat("k", api.MaxKey+1), "1")},
		{put("a", strings.Repeat("v", api.MaxValue+1))},
		reversed, many, append(many, many...), make([]api.Write, 300),
	} {
		for _, list := range []string{"", "acegikmo"} {
			for _, left := range []int{0, 2, 40} {
				s := letters(list)
				s.limitLeft(left, left, left, left)
				d := newDatabase(t, s)
				finishes(t, d.m, NewApply(d.l, b))
				d.survey(t)
			}
		}
	}
}

// Rule 1: in a damaged memory, too, an Apply finishes, if nothing is locked, no timestamp is awaited, and no links form a circle.
func TestDamaged(t *testing.T) {
	samples(t, 60, func(x sample) {
		for _, n := range []uint64{0, 1 << 40, math.MaxUint64} {
			roots, counts, links, chains := newDatabase(t, x.s), newDatabase(t, x.s), newDatabase(t, x.s), newDatabase(t, x.s)
			roots.set(roots.l.Root(), n)
			counts.set(counts.l.Chains(), n)
			counts.set(counts.l.Records(), n)
			for _, h := range x.s.nodes {
				links.m.Poke(links.l.High(h.ID), api.Cell{})
				links.set(links.l.Right(h.ID), n)
				for i, s := range h.Page.Slots {
					if h.Page.Level == leafLevel {
						chains.m.Poke(chains.l.Slot(h.ID, i), api.Cell{K: s.Key, N: n})
					}
				}
			}
			for _, d := range []*database{roots, counts, links, chains} {
				finishes(t, d.m, NewApply(d.l, x.b))
			}
			if len(x.b) > 0 && roots.published() != x.s.time {
				t.Fatal("a batch without a leaf is published")
			}
		}
	})
}
