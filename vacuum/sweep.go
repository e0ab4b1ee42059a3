package vacuum

import (
	"blinktree/api"
	"blinktree/chain"
	"blinktree/latch"
	"blinktree/layout"
	"blinktree/leaflock"
	"blinktree/memory"
	"blinktree/node"
	"blinktree/page"
)

// leafLevel is the level of the leaves.
const leafLevel = 0

// noNode is a number that no node has.
const noNode = 0

// The phases of a sweep.
const (
	locking   = iota // it locks the first leaf
	acquiring        // it waits for the latch of the next leaf
	reading          // it reads that leaf, which it has locked
	cutting          // it cuts the chain of a slot of the leaf
	writing          // it writes the leaf without the slots whose chains are dead
	releasing        // it releases the leaf
	swept            // it has gone through all leaves
)

// sweep is a machine that removes the versions below a floor from all leaves, one after the other, and the keys of which nothing is left.
type sweep struct {
	l        layout.Layout
	floor    uint64
	phase    int
	lock     *leaflock.Lock
	next     uint64 // the leaf for whose latch it waits
	acquire  *latch.Acquire
	own      *node.Own
	leaf     api.Held   // the leaf that it has locked
	slots    []api.Slot // those of its slots whose chains have not been cut yet, the one in progress included
	truncate *chain.Truncate
	dead     []string // the keys of those of its slots whose chains are dead
	write    *node.Write
	release  *latch.Release
}

// newSweep returns a machine that goes through all leaves. The floor of the memory is at least floor.
func newSweep(l layout.Layout, floor uint64) *sweep {
	return &sweep{l: l, floor: floor, lock: leaflock.NewLock(l, "", leafLevel)}
}

// step makes one access until the machine has gone through all leaves, and reports whether it has.
func (s *sweep) step(m *memory.Memory) bool {
	switch s.phase {
	case locking:
		if s.lock.Step(m) {
			s.begin()
		}
	case acquiring:
		if s.acquire.Step(m) {
			s.own, s.phase = node.NewOwn(s.l, s.next, s.acquire.Word()), reading
		}
	case reading:
		if s.own.Step(m) {
			s.enter(s.own.Held())
		}
	case cutting:
		if s.truncate.Step(m) {
			s.endCut()
		}
	case writing:
		if s.write.Step(m) {
			s.leaf = s.write.Held()
			s.leave()
		}
	case releasing:
		if s.release.Step(m) {
			s.goTo(s.leaf.Page.Right)
		}
	}
	return s.phase == swept
}

// begin goes on with the first leaf. Only in a damaged memory there is none.
func (s *sweep) begin() {
	h := s.lock.Held()
	if h.ID == noNode {
		s.phase = swept
		return
	}
	s.enter(h)
}

// enter goes on with the chains of a leaf that has been locked. None of their versions is pending, since a batch releases a leaf only
// after it has been published or taken back.
func (s *sweep) enter(h api.Held) {
	s.leaf, s.slots, s.dead = h, h.Page.Slots, nil
	s.cutNext()
}

// cutNext goes on with the next chain of the leaf, if there is one.
func (s *sweep) cutNext() {
	if len(s.slots) == 0 {
		s.remove()
		return
	}
	s.truncate, s.phase = chain.NewTruncate(s.l, s.slots[0].Ref, s.floor), cutting
}

// endCut notes whether the chain that has been cut is dead, and goes on.
func (s *sweep) endCut() {
	if s.truncate.Dead() {
		s.dead = append(s.dead, s.slots[0].Key)
	}
	s.slots = s.slots[1:]
	s.cutNext()
}

// remove goes on to remove the slots whose chains are dead. Without one, the leaf is not written, so that no reader has to read it again.
func (s *sweep) remove() {
	if len(s.dead) == 0 {
		s.leave()
		return
	}
	s.write, s.phase = node.NewWrite(s.l, s.leaf, page.Remove(s.leaf.Page, s.dead)), writing
}

// leave goes on to release the leaf, before it waits for the next one.
func (s *sweep) leave() {
	s.release, s.phase = latch.NewRelease(s.l.Latch(s.leaf.ID), s.leaf.Word), releasing
}

// goTo goes to the right sibling that a leaf had when it was released, if there is one. If the leaf has been split since then, the new
// leaf between them needs no sweep: it contains only what has been swept in the old one, and what has been written after that.
func (s *sweep) goTo(id uint64) {
	cell := s.l.Latch(id)
	if cell < 0 {
		s.phase = swept
		return
	}
	s.next, s.acquire, s.phase = id, latch.NewAcquire(cell), acquiring
}
