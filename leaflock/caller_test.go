package leaflock

import (
	"slices"
	"strconv"
	"testing"

	"blinktree/alloc"
	"blinktree/api"
	"blinktree/descent"
	"blinktree/keys"
	"blinktree/latch"
	"blinktree/layout"
	"blinktree/memory"
	"blinktree/node"
	"blinktree/page"
)

// job says that slots, in ascending order of their keys, are entered into the nodes of a level. No node is released before all are
// entered.
type job struct {
	level int
	slots []api.Slot
}

// caller is a machine that does one job after the other. After a split, the new node is to be entered into the level above.
type caller struct {
	l         layout.Layout
	jobs      []job
	now       machine
	held      []api.Held // the nodes that are locked, from the left to the right
	at        int        // the one of them that covers the key
	longer    api.Page   // its page with the new slot
	backwards bool       // whether the last node is released first
}

// newCaller returns a caller that enters keys into the leaves.
func newCaller(l layout.Layout, backwards bool, keys ...string) *caller {
	var slots []api.Slot
	for _, key := range keys {
		slots = append(slots, api.Slot{Key: key, Ref: 7})
	}
	c := &caller{l: l, jobs: []job{{0, slots}}, backwards: backwards}
	c.now = c.goOn()
	return c
}

func (c *caller) Step(m *memory.Memory) bool {
	if c.now != nil && c.now.Step(m) {
		c.now = c.next()
	}
	return c.now == nil
}

// next returns the next part of what the caller does, or nil if there is none.
func (c *caller) next() machine {
	switch x := c.now.(type) {
	case *Lock:
		c.held = append(c.held, x.Held())
		return c.enter()
	case *alloc.Take:
		number, _ := x.Number()
		left, right, separator, _ := page.Split(c.longer, number)
		c.longer = left
		c.jobs = append(c.jobs, job{left.Level + 1, []api.Slot{{Key: separator, Ref: number}}})
		return node.NewFresh(c.l, number, right)
	case *node.Fresh:
		c.held = slices.Insert(c.held, c.at+1, x.Held())
		return node.NewWrite(c.l, c.held[c.at], c.longer)
	case *node.Write:
		c.held[c.at] = x.Held()
		return c.goOn()
	}
	return c.giveBack()
}

// goOn goes on with the next slot, whose node may be locked already, or with the release.
func (c *caller) goOn() machine {
	if len(c.jobs) == 0 {
		return nil
	}
	slots := c.jobs[0].slots
	if len(slots) == 0 {
		return c.giveBack()
	}
	covers := func(h api.Held) bool { return keys.Within(slots[0].Key, "", h.Page.High, h.Page.Last) }
	c.at = slices.IndexFunc(c.held, covers)
	if c.at < 0 {
		c.at = len(c.held)
		return NewLock(c.l, slots[0].Key, c.jobs[0].level)
	}
	return c.enter()
}

// enter enters the next slot into its node, which is locked.
func (c *caller) enter() machine {
	s := c.jobs[0].slots[0]
	c.jobs[0].slots = c.jobs[0].slots[1:]
	p, isNew := page.Insert(c.held[c.at].Page, s.Key, s.Ref)
	if !isNew {
		return c.goOn()
	}
	c.longer = p
	if len(p.Slots) > c.l.Config().Fanout {
		return alloc.NewTake(c.l.Nodes(), uint64(c.l.Config().Nodes))
	}
	return node.NewWrite(c.l, c.held[c.at], p)
}

// giveBack releases the next node, or goes on with the next job.
func (c *caller) giveBack() machine {
	if len(c.held) == 0 {
		c.jobs = c.jobs[1:]
		return c.goOn()
	}
	i := 0
	if c.backwards {
		i = len(c.held) - 1
	}
	h := c.held[i]
	c.held = slices.Delete(c.held, i, i+1)
	return latch.NewRelease(c.l.Latch(h.ID), h.Word)
}

// arena is a tree and callers that work on it.
type arena struct {
	l       layout.Layout
	m       *memory.Memory
	callers []*caller
	words   []uint64       // the word in the latch of each node
	owner   []int          // who has locked each node: the index of a caller, or free
	lows    []string       // the low key of each node
	reads   []int          // for each caller, how many steps its Lock has made since it has locked a node
	rights  map[*Lock]bool // the Locks that have released a node
}

// free is the owner of a node that nobody has locked.
const free = -1

// newArena returns a tree whose leaves begin with these low keys and have these keys. Above them are levels with one node each, so
// many that the root is never split; the nodes of the leaves are in its slots, but for the last one, which has not been posted.
func newArena(t *testing.T, nodes, height int, lows []string, keys []string) *arena {
	t.Helper()
	l, m, err := layout.Start(api.Config{Threads: 1, Snapshots: 1, Nodes: nodes, Chains: 1, Records: 1, Fanout: api.MinFanout, Clock: 1})
	if err != api.OK {
		t.Fatal(err)
	}
	a := &arena{l: l, m: m, words: make([]uint64, nodes+1), lows: make([]string, nodes+1), rights: map[*Lock]bool{}}
	for range nodes + 1 {
		a.owner = append(a.owner, free)
	}
	m.Poke(l.Nodes(), api.Cell{})
	parent := api.Page{Level: 1, Last: true}
	for i, low := range lows {
		p := api.Page{Last: i == len(lows)-1}
		if !p.Last {
			p.High, p.Right = lows[i+1], uint64(i)+2
		}
		for _, key := range within(keys, low, p.High, p.Last) {
			p.Slots = append(p.Slots, api.Slot{Key: key, Ref: 7})
		}
		id := a.plant(p, low)
		if i == 0 || !p.Last {
			parent.Slots = append(parent.Slots, api.Slot{Key: low, Ref: id})
		}
	}
	for level := range height {
		id := a.plant(parent, "")
		m.Poke(l.Root(), api.Cell{N: id})
		parent = api.Page{Level: level + 2, Last: true, Slots: []api.Slot{{Key: "", Ref: id}}}
	}
	return a
}

// plant writes a new node, which is not locked.
func (a *arena) plant(p api.Page, low string) uint64 {
	id := a.m.Peek(a.l.Nodes()).N + 1
	a.m.Poke(a.l.Nodes(), api.Cell{N: id})
	f := node.NewFresh(a.l, id, p)
	for !f.Step(a.m) {
	}
	a.words[id], a.lows[id] = 4*id, low
	a.m.Poke(a.l.Latch(id), api.Cell{N: a.words[id]})
	return id
}

// add adds a caller.
func (a *arena) add(backwards bool, keys ...string) {
	a.callers = append(a.callers, newCaller(a.l, backwards, keys...))
	a.reads = append(a.reads, 0)
}

// owned returns how many nodes a caller has locked.
func (a *arena) owned(k int) int {
	n := 0
	for _, owner := range a.owner {
		if owner == k {
			n++
		}
	}
	return n
}

// pick makes a step of a caller and returns what of the chapter has been broken by then.
func (a *arena) pick(k int) string {
	c := a.callers[k]
	part, accesses := c.now, a.m.Accesses()
	c.Step(a.m)
	if made := a.m.Accesses() - accesses; made > 1 || part != nil && made != 1 {
		return "P2.4: a step does not make one access"
	}
	for id := 1; id < len(a.words); id++ {
		if broken := a.follow(k, id, a.m.Peek(a.l.Latch(uint64(id))).N); broken != "" {
			return broken
		}
	}
	switch x := part.(type) {
	case *Lock:
		return a.afterLock(k, x)
	case *node.Fresh:
		if id := x.Held().ID; id != 0 {
			a.lows[id] = c.jobs[len(c.jobs)-1].slots[0].Key
		}
	}
	return ""
}

// follow looks at the word in a latch after a step of a caller, and returns what has been broken.
func (a *arena) follow(k, id int, after uint64) string {
	before := a.words[id]
	a.words[id] = after
	switch {
	case before == after:
	case latch.Locked(before) && a.owner[id] != k:
		return "P12.1: node " + strconv.Itoa(id) + " is changed, but somebody else has locked it"
	case !latch.Locked(before) && after != latch.Lock(before):
		return "P12.1: node " + strconv.Itoa(id) + " is changed, but nobody has locked it"
	case latch.Locked(after):
		a.owner[id] = k
	default:
		a.owner[id] = free
	}
	return ""
}

// afterLock looks at a Lock of a caller after a step, and returns what has been broken.
func (a *arena) afterLock(k int, x *Lock) string {
	c := a.callers[k]
	h := x.Held()
	if h.ID != 0 {
		a.reads[k] = 0
		return a.wrong(k, x.key, h)
	}
	if c.now != machine(x) {
		return "P12.1: finished without a node"
	}
	// A Lock that waits for a latch while it has locked a node keeps that node for longer than it takes to read it.
	own := a.owned(k) - len(c.held)
	if own == 0 {
		a.rights[x] = a.rights[x] || a.reads[k] > 0
		a.reads[k] = 0
		return ""
	}
	a.reads[k]++
	if own > 1 || a.reads[k] > a.l.Config().Fanout+4 {
		return "P12.2: a Lock waits, and has a latch locked"
	}
	return ""
}

// wrong returns what is wrong about the result of a Lock.
func (a *arena) wrong(k int, key string, h api.Held) string {
	p := node.Peek(a.l, a.m, h.ID)
	switch {
	case a.owner[h.ID] != k || a.m.Peek(a.l.Latch(h.ID)).N != h.Word:
		return "P12.1: the node of a Lock is not locked"
	case !same(h, api.Held{ID: h.ID, Word: h.Word, Page: p}):
		return "P12.1: the page of a Lock is not that of the node"
	case !keys.Within(key, a.lows[h.ID], p.High, p.Last):
		return "P12.1: the node of a Lock does not cover the key " + strconv.Quote(key)
	}
	return ""
}

// picks makes some steps of a caller.
func (a *arena) picks(t *testing.T, k, steps int) {
	t.Helper()
	for range steps {
		if broken := a.pick(k); broken != "" {
			t.Fatal(broken)
		}
	}
}

// finish picks the callers in the given order, again and again, until all of them must have finished, and expects the keys in the tree.
func (a *arena) finish(t *testing.T, order []int, want []string) {
	t.Helper()
	working := func(c *caller) bool { return c.now != nil }
	for rounds := 0; slices.ContainsFunc(a.callers, working); rounds++ {
		if rounds > patience*len(a.callers)*len(a.callers) {
			t.Fatal("P12.2: the callers wait for each other")
		}
		for _, k := range order {
			a.picks(t, k, 1)
		}
	}
	for id, word := range a.words {
		if latch.Locked(word) {
			t.Fatalf("P12.1: node %d is still locked", id)
		}
	}
	a.expectKeys(t, want)
}

// expectKeys reports an error if the leaves have other keys, or if one of them is not found.
func (a *arena) expectKeys(t *testing.T, want []string) {
	t.Helper()
	var all []string
	for id := uint64(1); id != 0; id = node.Peek(a.l, a.m, id).Right {
		for _, s := range node.Peek(a.l, a.m, id).Slots {
			all = append(all, s.Key)
		}
	}
	if !slices.Equal(all, want) {
		t.Fatalf("P12.1: the keys in the leaves are %q, want %q", all, want)
	}
	for _, key := range want {
		f := descent.NewFind(a.l, key, 0)
		for !f.Step(a.m) {
		}
		_, p := f.Node()
		if _, in := page.Find(p, key); !in {
			t.Fatalf("P12.1: %q is in a leaf that does not cover it", key)
		}
	}
}
