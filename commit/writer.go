package commit

import (
	"slices"

	"blinktree/alloc"
	"blinktree/api"
	"blinktree/chain"
	"blinktree/insert"
	"blinktree/keys"
	"blinktree/layout"
	"blinktree/leaflock"
	"blinktree/memory"
	"blinktree/page"
)

// noNode is a number that no node has.
const noNode = 0

// The phases of a writer.
const (
	locking      = iota // it locks the leaf of the write
	takingChain         // it takes the number of a chain for a new key
	inserting           // it inserts a slot with this chain into the leaf
	takingRecord        // it takes the number of a record
	installing          // it puts the version on top of the chain
	written             // it has performed all writes
	lacking             // a chain, a node or a record is missing
)

// version is a version that has been installed and is pending: its chain, its record, and the record that was the newest one before.
type version struct{ chain, record, old uint64 }

// split is a leaf that a split has made, and its low key.
type split struct {
	separator string
	right     uint64
}

// writer is a machine that performs the writes of a batch, with pending versions, and keeps their leaves locked.
type writer struct {
	l        layout.Layout
	writes   []api.Write // the one in progress and those after it
	phase    int
	lock     *leaflock.Lock
	leaf     int // the index of the leaf of the write
	take     *alloc.Take
	chain    uint64
	insert   *insert.Insert
	record   uint64
	install  *chain.Install
	leaves   []api.Held // what it has locked, from the left to the right
	versions []version
	splits   []split
}

// newWriter returns a machine that performs the writes of a normal batch.
func newWriter(l layout.Layout, writes []api.Write) *writer {
	w := &writer{l: l, writes: writes}
	w.begin()
	return w
}

// step makes one access until all writes have been performed, or until something is missing, and reports whether it is so.
func (w *writer) step(m *memory.Memory) bool {
	switch w.phase {
	case locking:
		if w.lock.Step(m) {
			w.addLeaf()
		}
	case takingChain:
		if w.take.Step(m) {
			w.insertSlot()
		}
	case inserting:
		if w.insert.Step(m) {
			w.replaceLeaf()
		}
	case takingRecord:
		if w.take.Step(m) {
			w.putVersion()
		}
	case installing:
		if w.install.Step(m) {
			w.addVersion()
		}
	}
	return w.ended()
}

// ended reports whether the machine has finished.
func (w *writer) ended() bool { return w.phase == written || w.phase == lacking }

// failed reports whether something is missing.
func (w *writer) failed() bool { return w.phase == lacking }

// begin goes on with the first write that is left, if there is one. The machine locks a leaf only if none of those that it has locked
// covers the key; so all their high keys are at most the key, and the leaf is to the right of them.
func (w *writer) begin() {
	if len(w.writes) == 0 {
		w.phase = written
		return
	}
	w.leaf = slices.IndexFunc(w.leaves, w.covers)
	if w.leaf >= 0 {
		w.search()
		return
	}
	w.lock, w.phase = leaflock.NewLock(w.l, w.writes[0].Key, leafLevel), locking
}

// covers reports whether a leaf covers the key of the write, if none to the left of it that is locked does. Then its low key need not be
// compared: it has been locked for a key that is not greater, or has been split off from the locked one to the left of it.
func (w *writer) covers(h api.Held) bool {
	return keys.Within(w.writes[0].Key, "", h.Page.High, h.Page.Last)
}

// addLeaf goes on with the leaf that has been locked. Only in a damaged memory there is none.
func (w *writer) addLeaf() {
	h := w.lock.Held()
	if h.ID == noNode {
		w.phase = lacking
		return
	}
	w.leaf = len(w.leaves)
	w.leaves = append(w.leaves, h)
	w.search()
}

// search goes on with the chain of the key. For a key that is not in the tree, there is nothing to delete.
func (w *writer) search() {
	now, p := w.writes[0], w.leaves[w.leaf].Page
	i, in := page.Find(p, now.Key)
	switch {
	case in:
		w.chain = p.Slots[i].Ref
		w.takeRecord()
	case now.Delete:
		w.end()
	default:
		w.take, w.phase = alloc.NewTake(w.l.Chains(), uint64(w.l.Config().Chains)), takingChain
	}
}

// insertSlot goes on with a slot for the new chain, if there is one.
func (w *writer) insertSlot() {
	number, taken := w.take.Number()
	if !taken {
		w.phase = lacking
		return
	}
	w.chain = number
	w.insert, w.phase = insert.NewInsert(w.l, w.leaves[w.leaf], w.writes[0].Key, number), inserting
}

// replaceLeaf goes on after the Insert, unless a node was missing. After a split, both leaves are locked.
func (w *writer) replaceLeaf() {
	w.leaves[w.leaf] = w.insert.Left()
	if w.insert.Err() != api.OK {
		w.phase = lacking
		return
	}
	if right := w.insert.Right(); right.ID != noNode {
		w.leaves = slices.Insert(w.leaves, w.leaf+1, right)
		w.splits = append(w.splits, split{w.insert.Separator(), right.ID})
	}
	w.takeRecord()
}

// takeRecord goes on with a record for the version.
func (w *writer) takeRecord() {
	w.take, w.phase = alloc.NewTake(w.l.Records(), uint64(w.l.Config().Records)), takingRecord
}

// putVersion goes on with the version, if there is a record for it.
func (w *writer) putVersion() {
	number, taken := w.take.Number()
	if !taken {
		w.phase = lacking
		return
	}
	w.record = number
	w.install, w.phase = chain.NewInstall(w.l, w.chain, number, w.writes[0]), installing
}

// addVersion notes the version that has been installed, and goes on.
func (w *writer) addVersion() {
	w.versions = append(w.versions, version{w.chain, w.record, w.install.Old()})
	w.end()
}

// end goes on with the next write.
func (w *writer) end() {
	w.writes = w.writes[1:]
	w.begin()
}
