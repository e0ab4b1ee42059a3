package commit

import (
	"cmp"
	"slices"
	"testing"

	"blinktree/api"
	"blinktree/latch"
)

// What a batch must not do, and what is not looked at one by one: the cells of a node while it is changed, those of a new record, and what
// a Post does with the root.
const (
	other     = "changes a cell that it may not change"
	unnoticed = ""
)

// watcher looks at a database while one machine is at work.
type watcher struct {
	*database
	before []api.Cell
	events []event
}

// watch begins to look at a database.
func (d *database) watch() *watcher { return &watcher{database: d, before: d.cells()} }

// look notes what has been done since the last look.
func (x *watcher) look() {
	for i, before := range x.before {
		after := x.m.Peek(i)
		if after == before {
			continue
		}
		if e := x.event(i, before, after); e.what != unnoticed {
			x.events = append(x.events, e)
		}
		x.before[i] = after
	}
}

// event says what a change of a cell is.
func (x *watcher) event(i int, before, after api.Cell) event {
	switch {
	case i == x.l.Allocated():
		return event{allocateTime, 0, after.N}
	case i == x.l.Published():
		return event{publishTime, 0, after.N}
	case i == x.l.Nodes():
		return event{takeNode, 0, after.N}
	case i == x.l.Chains():
		return event{takeChain, 0, after.N}
	case i == x.l.Records():
		return event{takeRecord, 0, after.N}
	case i == x.l.Root() || i == x.l.Grow():
		return event{}
	case i >= x.l.Stamp(1):
		return x.recordEvent(i, after)
	case i >= x.l.Chain(1):
		return event{setHead, uint64(i-x.l.Chain(1)) + 1, after.N}
	case i >= x.l.Latch(1):
		return x.nodeEvent(i, before.N, after.N)
	}
	return event{what: other}
}

// recordEvent says what a change of a cell of a record is. Only those of the record that has been taken last may change before it gets its
// stamp.
func (x *watcher) recordEvent(i int, after api.Cell) event {
	r := uint64(i-x.l.Stamp(1))/3 + 1
	switch {
	case i == x.l.Stamp(r):
		return event{stampRecord, r, after.N}
	case r != x.m.Peek(x.l.Records()).N:
		return event{what: other}
	}
	return event{}
}

// nodeEvent says what a change of a cell of a node is. Nobody knows a new node before its latch is locked for the first time.
func (x *watcher) nodeEvent(i int, before, after uint64) event {
	id := uint64((i-x.l.Latch(1))/(x.l.Config().Fanout+4)) + 1
	word := x.word(id)
	switch {
	case i != x.l.Latch(id) && (latch.Locked(word) && latch.Changing(word) || word >= unusedWord && id == x.used()):
		return event{}
	case i != x.l.Latch(id):
		return event{what: other}
	case before >= unusedWord && after == latch.Lock(0) || !latch.Locked(before) && after == latch.Lock(before):
		return event{what: lockNode, n: id}
	case latch.Locked(before) && after == latch.Begin(before):
		return event{}
	case latch.Locked(before) && latch.Changing(before) && after == latch.End(before):
		return event{what: changeNode, n: id}
	case latch.Locked(before) && after == latch.Unlock(before):
		return event{what: releaseNode, n: id}
	}
	return event{what: other}
}

// sorted returns events, of which those that may happen in any order are in that of their numbers.
func sorted(list []event) []event {
	list = slices.Clone(list)
	for i := 0; i < len(list); {
		k := i + 1
		for list[i].what == stampRecord || list[i].what == releaseNode {
			if k == len(list) || list[k].what != list[i].what {
				break
			}
			k++
		}
		slices.SortFunc(list[i:k], func(e, f event) int { return cmp.Compare(e.n, f.n) })
		i = k
	}
	return list
}

// expectEvents reports an error if a batch has not done what it had to do, in this order, before it posted new leaves.
func (x *watcher) expectEvents(t *testing.T, want *trial) {
	t.Helper()
	n := len(want.events)
	if len(x.events) < n || !slices.Equal(sorted(x.events[:n]), sorted(want.events)) {
		t.Fatalf("P16.1, P16.2, P16.3: the batch does\n%v, want\n%v", x.events, want.events)
	}
	for _, e := range x.events[n:] {
		isNode := e.what == lockNode || e.what == changeNode || e.what == releaseNode
		if e.what != takeNode && (!isNode || want.at(e.n).Page.Level == leafLevel) {
			t.Fatalf("P16.2, P16.3: after the release of the leaves, the batch does %v", e)
		}
	}
}
