package cursor

import (
	"slices"

	"blinktree/api"
	"blinktree/descent"
	"blinktree/layout"
	"blinktree/memory"
	"blinktree/node"
	"blinktree/page"
)

// leafLevel is the level of the leaves.
const leafLevel = 0

// noNode is a number that no node has.
const noNode = 0

// The phases of a walk, which are also the ways by which it has come to the leaf where it is.
const (
	finding    = iota // forwards, it finds the first leaf
	reading           // forwards, it reads the right sibling of a leaf
	descending        // backwards, it finds a leaf from the root on, since leaves have no link to the left
)

// walk goes from leaf to leaf in one direction.
type walk struct {
	l     layout.Layout
	phase int
	key   string // forwards, the slots from this key on are on the way; backwards, those whose keys are less than it
	last  bool   // backwards, whether all slots are on the way
	find  *descent.Find
	read  *node.Read
	below *descent.Below
}

// newForwards returns a walk through the slots whose keys are at least key.
func newForwards(l layout.Layout, key string) *walk {
	return &walk{l: l, phase: finding, key: key, find: descent.NewFind(l, key, leafLevel)}
}

// newBackwards returns a walk through the slots whose keys are less than key, or, if last is true, through all slots.
func newBackwards(l layout.Layout, key string, last bool) *walk {
	return &walk{l: l, phase: descending, key: key, last: last, below: descent.NewBelow(l, key, last)}
}

// step makes one access until the walk has come to a leaf, and reports whether it has. If it can come to none, it has come to one without
// slots and without another one behind it.
func (w *walk) step(m *memory.Memory) bool {
	switch w.phase {
	case finding:
		return w.find.Step(m)
	case reading:
		return w.read.Step(m)
	}
	return w.below.Step(m)
}

// slots returns the slots of the leaf that are on the way, in the order of the walk.
func (w *walk) slots() []api.Slot {
	if w.phase == descending {
		return w.slotsBelow()
	}
	p := w.page()
	i, _ := page.Find(p, w.key)
	return p.Slots[i:]
}

// slotsBelow returns the slots of the leaf from the right to the left, without those whose keys are not less than the key.
func (w *walk) slotsBelow() []api.Slot {
	_, p, _ := w.below.Node()
	if !w.last {
		i, _ := page.Find(p, w.key)
		p.Slots = p.Slots[:i]
	}
	// The page is a copy, so that nobody else sees the other order.
	slices.Reverse(p.Slots)
	return p.Slots
}

// page returns the page of the leaf of a walk forwards.
func (w *walk) page() api.Page {
	if w.phase == finding {
		_, p := w.find.Node()
		return p
	}
	return w.read.Page()
}

// goOn goes to the next leaf, and reports whether there is one.
func (w *walk) goOn() bool {
	if w.phase == descending {
		return w.goLeft()
	}
	right := w.page().Right
	if right == noNode {
		return false
	}
	w.read, w.phase = node.NewRead(w.l, right), reading
	return true
}

// goLeft goes to the leaf with the greatest keys that are less than those of the leaf, and reports whether there is one. Since the low key
// never changes, this is the left sibling, also if that has been split off meanwhile.
func (w *walk) goLeft() bool {
	_, _, low := w.below.Node()
	if low == "" {
		return false
	}
	w.key, w.last, w.below = low, false, descent.NewBelow(w.l, low, false)
	return true
}
