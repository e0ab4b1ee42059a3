package commit

import (
	"slices"
	"testing"

	"blinktree/api"
	"blinktree/chain"
	"blinktree/latch"
	"blinktree/node"
	"blinktree/page"
	"blinktree/record"
)

// survey returns the tree that is in the memory when nothing is in progress, and reports an error if it is not a valid one, if a node is in
// use but not on its level, if a latch is locked, or if a timestamp has not been published.
func (d *database) survey(t *testing.T) *tree {
	t.Helper()
	c := d.l.Config()
	r := &tree{root: d.m.Peek(d.l.Root()).N, fanout: c.Fanout, limit: c.Nodes}
	for id := uint64(1); id <= d.used(); id++ {
		h := api.Held{ID: id, Word: d.word(id), Page: node.Peek(d.l, d.m, id)}
		if !page.Check(h.Page, c.Fanout) || latch.Locked(h.Word) || latch.Changing(h.Word) {
			t.Fatalf("P16.2, P16.3: node %d has the word %d and the page %#v", id, h.Word, h.Page)
		}
		r.nodes = append(r.nodes, h)
	}
	if d.m.Peek(d.l.Grow()) != (api.Cell{N: growWord}) {
		t.Fatalf("P16.2, P16.3: Grow is %#v", d.m.Peek(d.l.Grow()))
	}
	if d.m.Peek(d.l.Allocated()).N != d.published() {
		t.Fatalf("P16.2: %d is allocated, and %d published", d.m.Peek(d.l.Allocated()).N, d.published())
	}
	r.expectLinks(t)
	d.expectChains(t, r)
	return r
}

// expectLinks reports an error if the nodes are not linked as they must be.
func (r *tree) expectLinks(t *testing.T) {
	t.Helper()
	lows := map[uint64]string{}
	for level := range r.at(r.root).Page.Level + 1 {
		low := ""
		for _, h := range r.row(level) {
			lows[h.ID] = low
			for i, s := range h.Page.Slots {
				child, known := lows[s.Ref]
				switch {
				case s.Key < low || i == 0 && level > 0 && s.Key != low:
					t.Fatalf("P16.1: node %d has the low key %q and the slots %v", h.ID, low, h.Page.Slots)
				case level > 0 && (!known || child != s.Key || r.at(s.Ref).Page.Level != level-1):
					t.Fatalf("P16.2: node %d on level %d has the slot %v", h.ID, level, s)
				}
			}
			low = h.Page.High
		}
	}
	if len(lows) != len(r.nodes) {
		t.Fatalf("P16.2: %d nodes are in use, but %d are on their levels", len(r.nodes), len(lows))
	}
}

// expectChains reports an error if a chain is not valid, is that of two keys, or has a version that is pending or has not been published.
func (d *database) expectChains(t *testing.T, r *tree) {
	t.Helper()
	seen := map[uint64]bool{}
	for _, h := range r.row(leafLevel) {
		for _, s := range h.Page.Slots {
			list := chain.Peek(d.l, d.m, s.Ref)
			notPublished := func(v api.Version) bool { return v.Stamp == 0 || v.Stamp > d.published() }
			if seen[s.Ref] || s.Ref > d.m.Peek(d.l.Chains()).N || !record.Check(list) || slices.ContainsFunc(list, notPublished) {
				t.Fatalf("P16.5: the key %q has the chain %d with %v", s.Key, s.Ref, list)
			}
			seen[s.Ref] = true
		}
	}
}

// expectPosted reports an error if a node has no slot in the level above it, or if the root has a right sibling.
func (r *tree) expectPosted(t *testing.T) {
	t.Helper()
	top := r.at(r.root).Page.Level
	if n := len(r.row(top)); n != 1 {
		t.Fatalf("P16.2: %d nodes are on the level of the root", n)
	}
	for level := range top {
		slots := 0
		for _, h := range r.row(level + 1) {
			slots += len(h.Page.Slots)
		}
		if n := len(r.row(level)); slots != n {
			t.Fatalf("P16.2: on level %d are %d nodes, but above it %d slots", level, n, slots)
		}
	}
}
