package post

import (
	"blinktree/alloc"
	"blinktree/api"
	"blinktree/latch"
	"blinktree/layout"
	"blinktree/memory"
	"blinktree/node"
)

// The phases of a growth.
const (
	waiting     = iota // it waits for the latch Grow
	loadingRoot        // it loads the number of the root
	loadingHead        // it loads the level of the root
	taking             // it takes the number of a new node
	filling            // it writes the new node
	unlocking          // it releases the new node
	replacing          // it makes the new node the root
	leaving            // it releases Grow
	ended
)

// growth is a machine that makes a new node on a level the root, unless the root is on that level already, or above it.
type growth struct {
	l       layout.Layout
	level   int
	phase   int
	acquire *latch.Acquire
	root    uint64 // the root as it was before
	take    *alloc.Take
	fresh   *node.Fresh
	full    bool // whether no node was left
}

// newGrowth returns a machine that makes a new node on a level the root.
func newGrowth(l layout.Layout, level int) *growth {
	return &growth{
		l:       l,
		level:   level,
		acquire: latch.NewAcquire(l.Grow()),
		take:    alloc.NewTake(l.Nodes(), uint64(l.Config().Nodes)),
	}
}

// step makes one access until the root is on the level or above it, or until no node has been left, and reports whether it is so.
func (g *growth) step(m *memory.Memory) bool {
	switch g.phase {
	case waiting:
		if g.acquire.Step(m) {
			g.phase = loadingRoot
		}
	case loadingRoot:
		g.root, g.phase = m.Load(g.l.Root()).N, loadingHead
	case loadingHead:
		g.compare(int(m.Load(g.l.Head(g.root)).M))
	case taking:
		if g.take.Step(m) {
			g.fill()
		}
	case filling:
		if g.fresh.Step(m) {
			g.phase = unlocking
		}
	default:
		g.finish(m)
	}
	return g.phase == ended
}

// compare goes on according to the level of the root. Somebody else may have grown the tree while the latch was awaited.
func (g *growth) compare(level int) {
	if level < g.level {
		g.phase = taking
	} else {
		g.phase = leaving
	}
}

// fill goes on to write the new node, if there is one.
func (g *growth) fill() {
	number, taken := g.take.Number()
	if !taken {
		g.full, g.phase = true, leaving
		return
	}
	p := api.Page{Level: g.level, Slots: []api.Slot{{Key: "", Ref: g.root}}, Last: true}
	g.fresh, g.phase = node.NewFresh(g.l, number, p), filling
}

// finish makes one of the last steps. The new node is released before it becomes the root: as long as nobody else knows it, nobody waits
// for it.
func (g *growth) finish(m *memory.Memory) {
	switch g.phase {
	case unlocking:
		h := g.fresh.Held()
		latch.NewRelease(g.l.Latch(h.ID), h.Word).Step(m)
		g.phase = replacing
	case replacing:
		m.Store(g.l.Root(), api.Cell{N: g.fresh.Held().ID})
		g.phase = leaving
	case leaving:
		latch.NewRelease(g.l.Grow(), g.acquire.Word()).Step(m)
		g.phase = ended
	}
}
