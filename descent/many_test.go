package descent

import (
	"slices"
	"strconv"
	"testing"

	"blinktree/alloc"
	"blinktree/api"
	"blinktree/keys"
	"blinktree/latch"
	"blinktree/layout"
	"blinktree/memory"
	"blinktree/node"
	"blinktree/page"
)

// height is the number of levels of the tree.
const height = 6

// inserter is a machine that enters a slot into the node of a level that covers its key, and, after a split, the new node into the
// level above.
type inserter struct {
	l        layout.Layout
	key      string
	ref      uint64
	level    int
	now      machine
	held     api.Held // the node that is locked
	longer   api.Page // its page with the new slot
	fresh    api.Held // the node that a split has made
	low      string   // its low key
	inserted bool     // whether the first key is in the tree
}

// newInserter returns a machine that enters a key into a leaf.
func newInserter(l layout.Layout, key string) *inserter {
	return &inserter{l: l, key: key, ref: 7, now: NewFind(l, key, 0)}
}

func (i *inserter) Step(m *memory.Memory) bool {
	if i.now != nil && i.now.Step(m) {
		i.now = i.next()
	}
	return i.now == nil
}

// next returns the next part of what the inserter does, or nil if there is none.
func (i *inserter) next() machine {
	switch x := i.now.(type) {
	case *Find:
		id, _ := x.Node()
		i.held = api.Held{ID: id}
		return latch.NewAcquire(i.l.Latch(id))
	case *latch.Acquire:
		return node.NewOwn(i.l, i.held.ID, x.Word())
	case *node.Own:
		i.held = x.Held()
		return i.enter()
	case *alloc.Take:
		number, _ := x.Number()
		left, right, low, _ := page.Split(i.longer, number)
		i.longer, i.low = left, low
		return node.NewFresh(i.l, number, right)
	case *node.Fresh:
		i.fresh = x.Held()
		return node.NewWrite(i.l, i.held, i.longer)
	case *node.Write:
		i.held, i.inserted = x.Held(), true
		return latch.NewRelease(i.l.Latch(i.held.ID), i.held.Word)
	}
	return i.released()
}

// enter enters the slot into the node that is locked, if this still covers the key.
func (i *inserter) enter() machine {
	p := i.held.Page
	if !keys.Within(i.key, "", p.High, p.Last) {
		return latch.NewRelease(i.l.Latch(i.held.ID), i.held.Word)
	}
	i.longer, _ = page.Insert(p, i.key, i.ref)
	if len(i.longer.Slots) > i.l.Config().Fanout {
		return alloc.NewTake(i.l.Nodes(), uint64(i.l.Config().Nodes))
	}
	return node.NewWrite(i.l, i.held, i.longer)
}

// released returns what comes after a latch has been released: the right sibling, the latch of the new node, or the level above.
func (i *inserter) released() machine {
	switch {
	case i.longer.Slots == nil:
		i.held = api.Held{ID: i.held.Page.Right}
		return latch.NewAcquire(i.l.Latch(i.held.ID))
	case i.fresh.Word != 0:
		word := i.fresh.Word
		i.fresh.Word = 0
		return latch.NewRelease(i.l.Latch(i.fresh.ID), word)
	case i.fresh.ID != 0:
		i.key, i.ref, i.level = i.low, i.fresh.ID, i.level+1
		i.longer, i.fresh = api.Page{}, api.Held{}
		return NewFind(i.l, i.key, i.level)
	}
	return nil
}

// watcher is a reader that is in progress, and the keys that it must find.
type watcher struct {
	x    machine
	want []string
}

// crowd is a tree to which many inserters add keys among many readers.
type crowd struct {
	*tree
	waiting   []string // the keys that are to be inserted
	inserters []*inserter
	inserted  []string
	watchers  []*watcher
	finished  int
}

// newCrowd returns a crowd in a tree without keys that is so high that its root is never split.
func newCrowd(t *testing.T, seed int) *crowd {
	t.Helper()
	l, m, err := layout.Start(api.Config{Threads: 1, Snapshots: 1, Nodes: 2 * len(probes()), Chains: 1, Records: 1, Fanout: fanout, Clock: 1})
	if err != api.OK {
		t.Fatal(err)
	}
	c := &crowd{tree: &tree{database: &database{l: l, m: m}, x: uint64(seed)}}
	for level := range height {
		id := uint64(level) + 1
		p := api.Page{Level: level, Last: true}
		if level > 0 {
			p.Slots = []api.Slot{{Key: "", Ref: id - 1}}
		}
		f := node.NewFresh(l, id, p)
		for !f.Step(m) {
		}
		m.Poke(l.Latch(id), api.Cell{})
	}
	m.Poke(l.Root(), api.Cell{N: height})
	m.Poke(l.Nodes(), api.Cell{N: height})
	c.waiting = probes()
	for i := range c.waiting {
		k := i + c.roll(len(c.waiting)-i)
		c.waiting[i], c.waiting[k] = c.waiting[k], c.waiting[i]
	}
	return c
}

// insert begins an inserter if there are few, and makes a step of one.
func (c *crowd) insert() {
	if len(c.inserters) < 8 && len(c.waiting) > 0 {
		c.inserters = append(c.inserters, newInserter(c.l, c.waiting[0]))
		c.waiting = c.waiting[1:]
	}
	if len(c.inserters) == 0 {
		return
	}
	k := c.roll(len(c.inserters))
	i := c.inserters[k]
	before, key := i.inserted, i.key
	finished := i.Step(c.m)
	if i.inserted && !before {
		c.inserted = append(c.inserted, key)
	}
	if finished {
		c.inserters = slices.Delete(c.inserters, k, k+1)
	}
}

// watch begins a reader if there are few, and makes a step of one.
func (c *crowd) watch(t *testing.T) {
	t.Helper()
	if len(c.watchers) < 4 {
		c.watchers = append(c.watchers, &watcher{x: c.reader(), want: slices.Clone(c.inserted)})
	}
	k := c.roll(len(c.watchers))
	if w := c.watchers[k]; c.step(t, w.x) {
		w.expect(t)
		c.watchers = slices.Delete(c.watchers, k, k+1)
		c.finished++
	}
}

// reader returns a Find or a Below of a key.
func (c *crowd) reader() machine {
	all := probes()
	key := all[c.roll(len(all))]
	switch c.roll(5) {
	case 0:
		return NewFind(c.l, key, c.roll(3)+1)
	case 1:
		return NewBelow(c.l, key, true)
	case 2:
		return NewBelow(c.l, keys.Successor(key), false)
	}
	return NewFind(c.l, key, 0)
}

// expect reports an error if a reader has found a wrong node, or not all keys that were in the tree all the time.
func (w *watcher) expect(t *testing.T) {
	t.Helper()
	r := resultOf(w.x)
	switch x := w.x.(type) {
	case *Find:
		if r.id == 0 || !r.answersFind(x) {
			t.Fatalf("P11.1: %s on level %d finds node %d with the page %#v", nameOf(x), x.level, r.id, r.page)
		}
		if x.level == 0 {
			w.expectKeys(t, r.page, x.key, keys.Successor(x.key), false)
		}
	case *Below:
		if r.id == 0 || !r.answersBelow(x) {
			t.Fatalf("P11.2: %s finds node %d from %s with the page %#v", nameOf(x), r.id, strconv.Quote(r.low), r.page)
		}
		w.expectKeys(t, r.page, r.low, r.page.High, r.page.Last)
	}
}

// expectKeys reports an error if a page does not have all keys from low up to high that were in the tree all the time.
func (w *watcher) expectKeys(t *testing.T, p api.Page, low, high string, last bool) {
	t.Helper()
	for _, key := range within(w.want, low, high, last) {
		if _, in := page.Find(p, key); !in {
			t.Fatalf("P11.3: %s finds the page %#v, without %s, which was in the tree all the time", nameOf(w.x), p, strconv.Quote(key))
		}
	}
}

// P11.1 to P11.3: many inserters, whose splits are posted at some time, on all levels, among many readers. In the end all keys are found,
// one by one, and from the right to the left.
func TestManyInsertersAndReaders(t *testing.T) {
	for seed := range 60 {
		c := newCrowd(t, seed)
		for picks := 0; len(c.waiting)+len(c.inserters) > 0; picks++ {
			if picks > 1000000 {
				t.Fatal("P11.1: the inserters do not finish")
			}
			if c.roll(6) < 1+seed%4 {
				c.watch(t)
			} else {
				c.insert()
			}
		}
		if c.finished < 30 || len(c.inserted) != len(probes()) {
			t.Fatalf("the test does too little: %d readers, %d keys", c.finished, len(c.inserted))
		}
		for _, key := range probes() {
			w := &watcher{x: NewFind(c.l, key, 0), want: c.inserted}
			c.run(t, w.x)
			w.expect(t)
		}
		c.expectBackwards(t)
	}
}

// expectBackwards reports an error if the leaves, from the right to the left, do not have all keys.
func (c *crowd) expectBackwards(t *testing.T) {
	t.Helper()
	var all []string
	b := NewBelow(c.l, "", true)
	for leaves, low := 0, "some"; low != "" && leaves < patience; leaves++ {
		c.run(t, b)
		var p api.Page
		_, p, low = b.Node()
		all = append(keysOf(p), all...)
		b = NewBelow(c.l, low, false)
	}
	if !slices.Equal(all, probes()) {
		t.Fatalf("P11.2, P11.3: the keys from the right to the left are %q", all)
	}
}
