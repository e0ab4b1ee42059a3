package read

import (
	"blinktree/api"
	"blinktree/chain"
	"blinktree/descent"
	"blinktree/layout"
	"blinktree/memory"
	"blinktree/page"
)

// leafLevel is the level of the leaves.
const leafLevel = 0

// search is the part of a read that looks a key up at a time.
type search struct {
	l      layout.Layout
	key    string
	time   uint64
	find   *descent.Find
	lookup *chain.Lookup // nil as long as no slot with the key has been found
}

// newSearch returns a search of key at a time.
func newSearch(l layout.Layout, key string, time uint64) *search {
	return &search{l: l, key: key, time: time, find: descent.NewFind(l, key, leafLevel)}
}

// step makes one access until the search has finished, and reports whether it has.
func (s *search) step(m *memory.Memory) bool {
	if s.lookup != nil {
		return s.lookup.Step(m)
	}
	return s.find.Step(m) && !s.enter()
}

// enter goes on to the chain of the key, and reports whether the leaf has one. If the memory is damaged, there may be no leaf.
func (s *search) enter() bool {
	_, p := s.find.Node()
	i, in := page.Find(p, s.key)
	if in {
		s.lookup = chain.NewLookup(s.l, p.Slots[i].Ref, s.time)
	}
	return in
}

// answer returns what the search has found.
func (s *search) answer() api.Answer {
	if s.lookup != nil {
		if value, ok := s.lookup.Value(); ok {
			return api.Answer{Time: s.time, Key: s.key, Value: value}
		}
	}
	return api.Answer{Err: api.ErrNotFound, Time: s.time, Key: s.key}
}
