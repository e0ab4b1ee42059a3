package leaflock

import (
	"math"
	"slices"
	"strconv"
	"strings"
	"testing"

	"blinktree/api"
	"blinktree/layout"
	"blinktree/memory"
)

// machine is what P2.4 asks of Lock.
type machine interface{ Step(m *memory.Memory) bool }

// patience is a number of steps that is enough for every Lock of these tests if it does not have to wait.
const patience = 200

// database is a memory whose cells are all different, so that none of them can be taken for another one.
type database struct {
	l    layout.Layout
	m    *memory.Memory
	want []api.Cell
	mine map[*Lock]uint64 // the node that each Lock has locked
}

// start returns a database. All its cells have parts that have no meaning.
func start(t *testing.T, nodes, fanout int) *database {
	t.Helper()
	l, m, err := layout.Start(api.Config{Threads: 2, Snapshots: 1, Nodes: nodes, Chains: 3, Records: 2, Fanout: fanout, Clock: 9})
	if err != api.OK {
		t.Fatal(err)
	}
	d := &database{l: l, m: m, want: make([]api.Cell, m.Cells()), mine: map[*Lock]uint64{}}
	for i := range d.want {
		d.set(i, junk(i))
	}
	return d
}

// junk returns a cell that is not like the one at any other address. Its N is not the word of a locked latch.
func junk(i int) api.Cell {
	return api.Cell{N: 4 * (100000 + uint64(i)), K: "x" + strings.Repeat("\xff", i%30), M: 200000 + uint64(i)}
}

// set changes a cell, as another machine does between two steps.
func (d *database) set(i int, c api.Cell) {
	d.m.Poke(i, c)
	d.want[i] = c
}

// setN stores a number in a cell, with parts beside it that have no meaning.
func (d *database) setN(i int, n uint64) {
	c := junk(i)
	c.N = n
	d.set(i, c)
}

// setWord stores a word in the latch of a node.
func (d *database) setWord(id, word uint64) { d.set(d.l.Latch(id), api.Cell{N: word}) }

// word returns the word in the latch of a node.
func (d *database) word(id uint64) uint64 { return d.m.Peek(d.l.Latch(id)).N }

// put stores a page in a node, beside its latch.
func (d *database) put(id uint64, p api.Page) {
	d.set(d.l.Head(id), api.Cell{N: uint64(len(p.Slots)), M: uint64(p.Level)})
	d.set(d.l.High(id), api.Cell{K: p.High})
	if p.Last {
		d.set(d.l.High(id), api.Cell{M: 1})
	}
	d.setN(d.l.Right(id), p.Right)
	for i, s := range p.Slots {
		d.set(d.l.Slot(id, i), api.Cell{N: s.Ref, K: s.Key, M: 77})
	}
}

// expect reports an error if a cell is not as it should be.
func (d *database) expect(t *testing.T, promise string) {
	t.Helper()
	for i, want := range d.want {
		if d.m.Peek(i) != want {
			t.Fatalf("%s: cell %d is %#v, want %#v", promise, i, d.m.Peek(i), want)
		}
	}
}

// words returns the words in the latches of all nodes.
func (d *database) words() []uint64 {
	list := make([]uint64, d.l.Config().Nodes)
	for i := range list {
		list[i] = d.word(uint64(i) + 1)
	}
	return list
}

// step makes a step of a Lock that has not finished, which must be one access, and reports whether it has finished with it.
func (d *database) step(t *testing.T, k *Lock) bool {
	t.Helper()
	expectNone(t, "P2.4: before the end", k)
	accesses, words := d.m.Accesses(), d.words()
	finished := k.Step(d.m)
	if d.m.Accesses() != accesses+1 {
		t.Fatalf("P2.4: %d accesses in one step", d.m.Accesses()-accesses)
	}
	d.follow(t, k, words)
	if d.mine[k] != k.Held().ID && (finished || k.Held().ID != 0) {
		t.Fatalf("P12.1: %s has locked node %d, but has %#v", nameOf(k), d.mine[k], k.Held())
	}
	return finished
}

// follow says which node a Lock has locked after a step before which these were the words in the latches. It reports an error if
// that are two nodes, or if the step does anything else to a latch.
func (d *database) follow(t *testing.T, k *Lock, words []uint64) {
	t.Helper()
	for i, word := range d.words() {
		id := uint64(i) + 1
		switch {
		case word == words[i]:
		case word == words[i]|1 && d.mine[k] == 0:
			d.mine[k] = id
		case word|1 == words[i] && d.mine[k] == id:
			d.mine[k] = 0
		default:
			t.Fatalf("P12.1, P12.2: %s, which has locked node %d, makes the word %d of node %d %d", nameOf(k), d.mine[k], words[i], id, word)
		}
	}
}

// run makes all steps of a Lock.
func (d *database) run(t *testing.T, k *Lock) {
	t.Helper()
	for steps := 0; !d.step(t, k); steps++ {
		if steps > patience {
			t.Fatalf("P12.1: %s does not finish", nameOf(k))
		}
	}
	d.expectFinished(t, k)
}

// wait makes many steps of a Lock that must not finish.
func (d *database) wait(t *testing.T, promise string, k *Lock) {
	t.Helper()
	for range patience {
		if d.step(t, k) {
			t.Fatalf("%s: %s does not wait for a latch, but finishes with %#v", promise, nameOf(k), k.Held())
		}
	}
}

// expectFinished makes three more steps of a Lock, which must be no accesses, and change neither the memory nor the result.
func (d *database) expectFinished(t *testing.T, k *Lock) {
	t.Helper()
	accesses, word, held := d.m.Accesses(), d.word(k.Held().ID), k.Held()
	for range 3 {
		if !k.Step(d.m) {
			t.Fatal("P2.4: a finished machine says that it has not finished")
		}
	}
	if d.m.Accesses() != accesses || d.word(held.ID) != word || !same(k.Held(), held) {
		t.Fatal("P2.4: a step of a finished machine has an effect")
	}
}

// expectHeld reports an error if the result of a Lock is not the right one, or the memory is not as before but for the lock. It
// says so in the memory that is wanted.
func (d *database) expectHeld(t *testing.T, promise string, k *Lock, n *member) {
	t.Helper()
	cell := d.want[d.l.Latch(n.id)]
	cell.N |= 1
	d.want[d.l.Latch(n.id)] = cell
	want := api.Held{ID: n.id, Word: cell.N, Page: n.page}
	if !same(k.Held(), want) {
		t.Fatalf("%s: %s has %#v, want %#v", promise, nameOf(k), k.Held(), want)
	}
	d.expect(t, promise)
}

// unlock releases the latch of a node.
func (d *database) unlock(id uint64) {
	c := d.m.Peek(d.l.Latch(id))
	c.N &^= 1
	d.set(d.l.Latch(id), c)
}

// expectNone reports an error if a Lock has a result.
func expectNone(t *testing.T, promise string, k *Lock) {
	t.Helper()
	if !same(k.Held(), api.Held{}) {
		t.Fatalf("%s: %s has %#v", promise, nameOf(k), k.Held())
	}
}

// nameOf describes a Lock.
func nameOf(k *Lock) string { return "Lock of " + strconv.Quote(k.key) }

// same reports whether two nodes are equal.
func same(h, g api.Held) bool {
	p, q := h.Page, g.Page
	pages := p.Level == q.Level && p.High == q.High && p.Last == q.Last && p.Right == q.Right && slices.Equal(p.Slots, q.Slots)
	return h.ID == g.ID && h.Word == g.Word && pages
}

// member is a node of a tree.
type member struct {
	id   uint64
	low  string
	page api.Page
}

// covers reports whether a node covers a key.
func (n *member) covers(key string) bool { return key >= n.low && (n.page.Last || key < n.page.High) }

// tree is a database with a tree: the nodes of each level, from the left to the right.
type tree struct {
	*database
	levels [][]*member
	x      uint64   // the state of a sequence of numbers that seem random
	free   []uint64 // the numbers of nodes that are not in use
}

// roll returns a number less than n.
func (g *tree) roll(n int) int {
	g.x = g.x*6364136223846793005 + 1442695040888963407
	return int(g.x >> 33 % uint64(n))
}

// some returns some of the keys, in their order.
func (g *tree) some(keys []string, n int) []string {
	var list []string
	for i, k := range keys {
		if g.roll(len(keys)-i) < n-len(list) {
			list = append(list, k)
		}
	}
	return list
}

// universe is the keys of trees, in ascending order, the empty one included.
func universe() []string {
	list := []string{"", strings.Repeat("a", api.MaxKey), strings.Repeat("\xff", api.MaxKey), strings.Repeat("b", api.MaxKey+1)}
	for _, s := range []string{"\x00", "a", "b", "\xff"} {
		list = append(list, s)
		for _, u := range []string{"\x00", "a", "\xff"} {
			list = append(list, s+u, s+u+"\x00")
		}
	}
	slices.Sort(list)
	return list
}

// probes returns keys of all kinds: those of the universe, and beside each of them.
func probes() []string {
	list := universe()
	for _, k := range universe() {
		list = append(list, k+"\x00", k+"\xff")
		if k != "" {
			list = append(list, k[:len(k)-1])
		}
	}
	slices.Sort(list)
	return slices.Compact(list)
}

// within returns the keys from low up to high, or to the end.
func within(keys []string, low, high string, last bool) []string {
	return slices.DeleteFunc(slices.Clone(keys), func(k string) bool { return k < low || !last && k >= high })
}

// level adds a level whose nodes have these low keys. Each node gets slots from the function.
func (g *tree) level(lows []string, slots func(low, high string, last bool) []api.Slot) {
	var nodes []*member
	for i, low := range lows {
		p := api.Page{Level: len(g.levels), Last: i == len(lows)-1}
		if !p.Last {
			p.High = lows[i+1]
		}
		p.Slots = slots(low, p.High, p.Last)
		nodes = append(nodes, &member{id: g.free[i], low: low, page: p})
	}
	for i := range nodes[1:] {
		nodes[i].page.Right = nodes[i+1].id
	}
	g.free = g.free[len(nodes):]
	g.levels = append(g.levels, nodes)
}

// leaves adds the leaves. What their slots refer to looks like nodes.
func (g *tree) leaves(fanout int) {
	keys := universe()
	lows := append([]string{""}, g.some(keys[1:], g.roll(10))...)
	g.level(lows, func(low, high string, last bool) []api.Slot {
		var slots []api.Slot
		for _, k := range g.some(within(keys, low, high, last), g.roll(fanout+1)) {
			slots = append(slots, api.Slot{Key: k, Ref: uint64(g.roll(40)) + 1})
		}
		return slots
	})
}

// grow adds a level of nodes above the other ones. Some nodes of the level below have no slot there yet.
func (g *tree) grow(fanout int) {
	below := map[string]uint64{}
	posted := []string{""}
	for _, n := range g.levels[len(g.levels)-1] {
		below[n.low] = n.id
		if n.low != "" && g.roll(4) > 0 {
			posted = append(posted, n.low)
		}
	}
	var lows []string
	size := 0
	for _, k := range posted {
		if size == 0 {
			lows = append(lows, k)
			size = g.roll(fanout) + 1
		}
		size--
	}
	g.level(lows, func(low, high string, last bool) []api.Slot {
		var slots []api.Slot
		for _, k := range within(posted, low, high, last) {
			slots = append(slots, api.Slot{Key: k, Ref: below[k]})
		}
		return slots
	})
}

// newTree returns a tree that depends on the seed only: with one level up to four, whose highest one may have several nodes. No latch
// is locked, and all versions are different.
func newTree(t *testing.T, seed int) *tree {
	t.Helper()
	const nodes = 48
	fanout := api.MinFanout + seed%3
	g := &tree{database: start(t, nodes, fanout), x: uint64(seed)}
	for range 16 {
		g.roll(1)
	}
	for id := range uint64(nodes) {
		g.free = append(g.free, id+1)
		g.setWord(id+1, 8*id+id%2*4+id%4<<62)
	}
	for i := range g.free {
		k := i + g.roll(len(g.free)-i)
		g.free[i], g.free[k] = g.free[k], g.free[i]
	}
	g.leaves(fanout)
	for range g.roll(4) {
		g.grow(fanout)
	}
	for _, n := range g.members() {
		g.put(n.id, n.page)
	}
	g.setN(g.l.Root(), g.levels[len(g.levels)-1][0].id)
	return g
}

// members returns all nodes of a tree.
func (g *tree) members() []*member { return slices.Concat(g.levels...) }

// covering returns the node of a level that covers a key, by what chapter 11 says of the keys that a node covers.
func (g *tree) covering(key string, level int) *member {
	for _, n := range g.levels[level] {
		if n.covers(key) {
			return n
		}
	}
	return nil
}

// split gives the keys of a node from some key on to a new node. Its version is another one after that.
func (g *tree) split(n *member, low string) *member {
	right := &member{id: g.free[0], low: low, page: n.page}
	g.free = g.free[1:]
	i := slices.IndexFunc(n.page.Slots, func(s api.Slot) bool { return s.Key >= low })
	if i < 0 {
		i = len(n.page.Slots)
	}
	right.page.Slots = slices.Clone(n.page.Slots[i:])
	n.page.Slots = slices.Clone(n.page.Slots[:i])
	n.page.High, n.page.Last, n.page.Right = low, false, right.id
	nodes := g.levels[n.page.Level]
	g.levels[n.page.Level] = slices.Insert(nodes, slices.Index(nodes, n)+1, right)
	for _, x := range []*member{right, n} {
		g.put(x.id, x.page)
		g.setWord(x.id, g.word(x.id)+4)
	}
	return right
}

// noLevels are levels that no tree of these tests has.
var noLevels = []int{4, 5, 63, 1 << 32, math.MaxInt, -1, -2, -1 << 32, math.MinInt}
