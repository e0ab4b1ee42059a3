package descent

import (
	"maps"
	"slices"
	"strconv"
	"testing"

	"blinktree/api"
	"blinktree/latch"
	"blinktree/layout"
	"blinktree/memory"
	"blinktree/node"
	"blinktree/page"
)

// The sizes of the databases in which a tree changes, and the node of the first keys.
const (
	manyNodes = 14
	fanout    = 4
	firstLeaf = 1
)

// moment is a memory as it is at some time, with the page that each node had when it was last not changing.
type moment struct {
	m        *memory.Memory
	changing map[uint64]bool
	pages    map[uint64]api.Page
	complete map[uint64]bool // the nodes in which there are all keys of the tree that they cover, if they are leaves
}

// history is a tree that a writer changes, with all moments from its beginning on. Since a reader changes nothing, an order of the steps
// of both is the same as a moment for each step of the reader.
type history struct {
	l       layout.Layout
	m       *memory.Memory
	moments []*moment
	lows    map[uint64]string
	posts   []post
}

// post is a slot that is to be entered into a level.
type post struct {
	level int
	key   string
	child uint64
}

// newHistory returns the history of an empty database.
func newHistory(t *testing.T) *history {
	t.Helper()
	l, m, err := layout.Start(api.Config{Threads: 1, Snapshots: 1, Nodes: manyNodes, Chains: 1, Records: 1, Fanout: fanout, Clock: 1})
	if err != api.OK {
		t.Fatal(err)
	}
	h := &history{l: l, m: m, lows: map[uint64]string{firstLeaf: ""}}
	h.note()
	return h
}

// note adds a moment.
func (h *history) note() {
	n := &moment{m: h.m.Copy(), changing: map[uint64]bool{}, pages: map[uint64]api.Page{}, complete: map[uint64]bool{}}
	for id := uint64(1); id <= manyNodes; id++ {
		n.pages[id] = node.Peek(h.l, h.m, id)
		if latch.Changing(h.m.Peek(h.l.Latch(id)).N) {
			n.changing[id] = true
			n.pages[id] = h.moments[len(h.moments)-1].pages[id]
		}
	}
	var all []string
	for id := uint64(firstLeaf); id != 0; id = n.pages[id].Right {
		all = append(all, keysOf(n.pages[id])...)
	}
	for id, low := range h.lows {
		p := n.pages[id]
		missing := func(key string) bool { return !slices.Contains(keysOf(p), key) }
		n.complete[id] = !slices.ContainsFunc(within(all, low, p.High, p.Last), missing)
	}
	h.moments = append(h.moments, n)
}

// keysOf returns the keys of the slots of a page.
func keysOf(p api.Page) []string {
	var list []string
	for _, s := range p.Slots {
		list = append(list, s.Key)
	}
	return list
}

// do makes all steps of a machine of the writer. Only those that change something make another moment.
func (h *history) do(x machine) {
	for finished := false; !finished; {
		before := h.m.Copy()
		finished = x.Step(h.m)
		for i := range h.m.Cells() {
			if h.m.Peek(i) != before.Peek(i) {
				h.note()
				break
			}
		}
	}
}

// rootOf returns the number of the root at a moment.
func (h *history) rootOf(n *moment) uint64 { return n.m.Peek(h.l.Root()).N }

// covering returns the node of a level that covers a key, or 0 if the root is on a lower level.
func (h *history) covering(key string, level int) uint64 {
	last := h.moments[len(h.moments)-1]
	id := h.rootOf(last)
	if last.pages[id].Level < level {
		return 0
	}
	for last.pages[id].Level > level {
		id = last.pages[id].Slots[0].Ref
	}
	for p := last.pages[id]; !p.Last && key >= p.High; p = last.pages[id] {
		id = p.Right
	}
	return id
}

// lock locks a node and reads it.
func (h *history) lock(id uint64) api.Held {
	a := latch.NewAcquire(h.l.Latch(id))
	h.do(a)
	o := node.NewOwn(h.l, id, a.Word())
	h.do(o)
	return o.Held()
}

// write changes a node that has been locked, and releases it.
func (h *history) write(held api.Held, p api.Page) {
	w := node.NewWrite(h.l, held, p)
	h.do(w)
	h.do(latch.NewRelease(h.l.Latch(held.ID), w.Held().Word))
}

// fresh writes a new node, and releases it.
func (h *history) fresh(p api.Page, low string) uint64 {
	id := uint64(len(h.lows)) + 1
	h.lows[id] = low
	f := node.NewFresh(h.l, id, p)
	h.do(f)
	h.do(latch.NewRelease(h.l.Latch(id), f.Held().Word))
	return id
}

// enter enters a slot into a level. After a split, the slot of the new node is to be posted at some time.
func (h *history) enter(level int, key string, ref uint64) {
	id := h.covering(key, level)
	if id == 0 {
		id = h.fresh(api.Page{Level: level, Slots: []api.Slot{{Key: "", Ref: h.rootOf(h.moments[len(h.moments)-1])}}, Last: true}, "")
		h.m.Poke(h.l.Root(), api.Cell{N: id})
		h.note()
	}
	held := h.lock(id)
	p, _ := page.Insert(held.Page, key, ref)
	if len(p.Slots) > fanout {
		left, right, separator, _ := page.Split(p, uint64(len(h.lows))+1)
		h.posts = append(h.posts, post{level + 1, separator, h.fresh(right, separator)})
		p = left
	}
	h.write(held, p)
}

// insert enters keys into leaves.
func (h *history) insert(keys ...string) {
	for _, key := range keys {
		h.enter(0, key, 7)
	}
}

// remove removes keys from their leaves, one leaf after the other.
func (h *history) remove(keys ...string) {
	for _, key := range keys {
		held := h.lock(h.covering(key, 0))
		h.write(held, page.Remove(held.Page, keys))
	}
}

// postFirst posts the oldest slot that has not been posted.
func (h *history) postFirst() {
	p := h.posts[0]
	h.posts = h.posts[1:]
	h.enter(p.level, p.key, p.child)
}

// postLast posts the newest slot that has not been posted.
func (h *history) postLast() {
	p := h.posts[len(h.posts)-1]
	h.posts = h.posts[:len(h.posts)-1]
	h.enter(p.level, p.key, p.child)
}

// The histories of the tests.

// growing grows from one leaf to two levels. Later keys come into a leaf whose separator has not been posted.
func growing(h *history) {
	h.insert("d", "h", "l", "p")
	h.insert("f")
	h.insert("q", "r", "t")
	h.postLast()
	h.insert("b")
	h.postFirst()
}

// shrinking removes keys, so that some leaves are empty, and splits a leaf that has been empty.
func shrinking(h *history) {
	h.insert("d", "h", "l", "p", "t")
	h.postFirst()
	h.remove("p", "t")
	h.remove("d")
	h.insert("w", "v", "u", "q", "ux")
	h.remove("h", "l")
	h.postFirst()
	h.insert("d")
}

// climbing grows from two levels to three: an inner node is split, and the root grows.
func climbing(h *history) {
	h.insert("b", "d", "f", "h", "j")
	h.postFirst()
	h.insert("l", "n", "p", "r", "t", "v")
	h.postLast()
	h.postFirst()
	h.insert("w", "x", "y", "z")
	h.postFirst()
	h.postFirst()
	h.insert("a", "c", "e")
}

// histories returns all histories.
func histories(t *testing.T) []*history {
	t.Helper()
	var list []*history
	for _, play := range []func(h *history){growing, shrinking, climbing} {
		h := newHistory(t)
		play(h)
		list = append(list, h)
	}
	return list
}

// piece says that so many steps are made at a moment.
type piece struct{ steps, moment int }

// run makes the steps of a machine as the pieces say, and the ones after that at one moment after the other. It returns the moments of
// the first step and of the last one.
func (h *history) run(t *testing.T, x machine, pieces ...piece) (int, int) {
	t.Helper()
	first, now := pieces[0].moment, 0
	for _, p := range pieces {
		now = p.moment
		for range p.steps {
			if h.step(t, x, now) {
				return first, now
			}
		}
	}
	for range patience {
		if h.step(t, x, now) {
			return first, now
		}
		now = min(now+1, len(h.moments)-1)
	}
	t.Fatalf("P11.1, P11.2: %s does not finish", nameOf(x))
	return 0, 0
}

// step makes a step of a machine at a moment.
func (h *history) step(t *testing.T, x machine, now int) bool {
	m := h.moments[now].m
	accesses := m.Accesses()
	finished := x.Step(m)
	if m.Accesses() != accesses+1 {
		t.Fatalf("P2.4: %d accesses in one step", m.Accesses()-accesses)
	}
	return finished
}

// expect reports an error if the result of a machine that has run between two moments is not what the chapter says.
func (h *history) expect(t *testing.T, x machine, first, last int) {
	t.Helper()
	r := resultOf(x)
	low := strconv.Quote(h.lows[r.id])
	switch x := x.(type) {
	case *Find:
		begin := h.moments[first]
		if begin.pages[h.rootOf(begin)].Level < x.level {
			expectNone(t, "P11.1: the root was on a lower level", x)
			return
		}
		if !r.answersFind(x) || x.key < h.lows[r.id] {
			t.Fatalf("P11.1: %s on level %d finds node %d from %s with the page %#v", nameOf(x), x.level, r.id, low, r.page)
		}
	case *Below:
		if !r.answersBelow(x) || r.low != h.lows[r.id] {
			t.Fatalf("P11.2: %s finds node %d from %s with the page %#v and the low key %s", nameOf(x), r.id, low, r.page, strconv.Quote(r.low))
		}
	}
	h.expectValidated(t, x, first, last)
}

// expectValidated reports an error if the page was not the content of the node at a moment, or was so while the tree had more keys.
func (h *history) expectValidated(t *testing.T, x machine, first, last int) {
	t.Helper()
	r := resultOf(x)
	validated := false
	for k := first; k <= last; k++ {
		n := h.moments[k]
		if n.changing[r.id] || !same(n.pages[r.id], r.page) {
			continue
		}
		validated = true
		if r.page.Level == 0 && !n.complete[r.id] {
			t.Fatalf("P11.3: %s finds node %d with the page %#v, but at moment %d more keys were in the tree", nameOf(x), r.id, r.page, k)
		}
	}
	if !validated {
		t.Fatalf("P11.1, P11.2: node %d never had the page %#v of %s, moments %d to %d", r.id, r.page, nameOf(x), first, last)
	}
}

// readers returns functions that make machines: of all kinds for each of the keys.
func (h *history) readers(keys ...string) []func() machine {
	list := []func() machine{func() machine { return NewBelow(h.l, "", true) }}
	for _, key := range keys {
		for level := range 3 {
			list = append(list, func() machine { return NewFind(h.l, key, level) })
		}
		list = append(list, func() machine { return NewBelow(h.l, key, false) })
	}
	return list
}

// P11.1 to P11.3: readers that make some steps at a moment, and the others at a later one, for all moments and numbers of steps.
func TestReadersThatPause(t *testing.T) {
	for _, h := range histories(t) {
		for _, newMachine := range h.readers("a", "l", "t\x00") {
			for from := range h.moments {
				h.pause(t, newMachine, from)
			}
		}
	}
}

// pause tries a machine that pauses between a moment and each later one, after each number of steps.
func (h *history) pause(t *testing.T, newMachine func() machine, from int) {
	t.Helper()
	for steps := range 24 {
		for _, later := range []int{1, 2, 3, 4, 5, 7, 9, 12, 20, 40} {
			x := newMachine()
			first, last := h.run(t, x, piece{steps + 1, from}, piece{25, min(from+later, len(h.moments)-1)})
			h.expect(t, x, first, last)
		}
	}
}

// P11.1 to P11.3: readers in many orders, which pause again and again.
func TestReadersInManyOrders(t *testing.T) {
	for _, h := range histories(t) {
		for _, newMachine := range h.readers("\x00", "d", "dx", "h", "l", "p", "t", "u", "\xff") {
			seed := uint64(1)
			for from := range h.moments {
				for range 40 {
					x := newMachine()
					first, last := h.run(t, x, pauses(&seed, from, len(h.moments)-1)...)
					h.expect(t, x, first, last)
				}
			}
		}
	}
}

// pauses returns pieces from a moment on, of up to seven steps each.
func pauses(seed *uint64, now, end int) []piece {
	var list []piece
	for range 8 {
		*seed = *seed*6364136223846793005 + 1442695040888963407
		list = append(list, piece{int(*seed>>33%7) + 1, now})
		now = min(now+int(*seed>>48%12), end)
	}
	return list
}

// P11.3: a key that is in the tree from a moment on is found from then on, while nodes are split and their separators are posted.
func TestKeysThatStayAreFound(t *testing.T) {
	for i, h := range histories(t) {
		end := h.moments[len(h.moments)-1]
		if levels := end.pages[h.rootOf(end)].Level; levels != []int{1, 1, 2}[i] || len(h.lows) < 4 {
			t.Fatalf("the test does too little: level %d, %d nodes", levels, len(h.lows))
		}
		for from := range h.moments {
			for key := range h.kept(from) {
				f := NewFind(h.l, key, 0)
				h.run(t, f, piece{1, from})
				_, p := f.Node()
				if _, in := page.Find(p, key); !in {
					t.Fatalf("P11.3: %s finds the page %#v", nameOf(f), p)
				}
			}
		}
	}
}

// kept returns the keys that are in the tree from a moment on, up to the end.
func (h *history) kept(from int) map[string]bool {
	kept := map[string]bool{}
	for k := from; k < len(h.moments); k++ {
		now := map[string]bool{}
		for id := uint64(firstLeaf); id != 0; id = h.moments[k].pages[id].Right {
			for _, key := range keysOf(h.moments[k].pages[id]) {
				now[key] = k == from || kept[key]
			}
		}
		kept = now
	}
	maps.DeleteFunc(kept, func(key string, in bool) bool { return !in })
	return kept
}
