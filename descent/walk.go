package descent

import (
	"blinktree/api"
	"blinktree/layout"
	"blinktree/memory"
	"blinktree/node"
)

// noNode is a number that no node has.
const noNode = 0

// The phases of a walk.
const (
	toRoot  = iota // it loads the number of the root
	reading        // it reads the node to which it has come
	arrived        // it has come to the node that is looked for
	failed         // there is no such node
)

// walk goes from node to node, from the root on. Whoever uses it says, for each page that it has read, where it goes next.
type walk struct {
	l     layout.Layout
	id    uint64
	read  *node.Read
	phase int
}

// step makes one access unless the walk has ended, and reports whether this has read the page of a node.
func (w *walk) step(m *memory.Memory) bool {
	switch w.phase {
	case toRoot:
		w.goTo(m.Load(w.l.Root()).N)
	case reading:
		return w.read.Step(m)
	}
	return false
}

// page returns the page that has been read.
func (w *walk) page() api.Page { return w.read.Page() }

// goTo goes to a node, which the next steps read. Only in a damaged memory, nothing is there to go to.
func (w *walk) goTo(id uint64) {
	if id == noNode {
		w.fail()
		return
	}
	w.id, w.read, w.phase = id, node.NewRead(w.l, id), reading
}

// arrive ends the walk at the node whose page has been read.
func (w *walk) arrive() { w.phase = arrived }

// fail ends the walk without a node.
func (w *walk) fail() { w.phase = failed }

// ended reports whether the walk has ended.
func (w *walk) ended() bool { return w.phase == arrived || w.phase == failed }

// node returns the node at which the walk has ended, with its page, or zero values if there is none.
func (w *walk) node() (uint64, api.Page) {
	if w.phase != arrived {
		return noNode, api.Page{}
	}
	return w.id, w.page()
}
