package descent

import (
	"math"
	"slices"
	"strconv"
	"strings"
	"testing"

	"blinktree/api"
	"blinktree/layout"
	"blinktree/memory"
)

// machine is what P2.4 asks of Find and Below.
type machine interface{ Step(m *memory.Memory) bool }

// patience is a number of steps that is enough for every machine of these tests if it does not have to wait.
const patience = 1000

// database is a memory whose cells are all different, so that none of them can be taken for another one.
type database struct {
	l    layout.Layout
	m    *memory.Memory
	want []api.Cell
}

// start returns a database. All its cells have parts that have no meaning.
func start(t *testing.T, nodes, fanout int) *database {
	t.Helper()
	l, m, err := layout.Start(api.Config{Threads: 2, Snapshots: 1, Nodes: nodes, Chains: 3, Records: 2, Fanout: fanout, Clock: 9})
	if err != api.OK {
		t.Fatal(err)
	}
	d := &database{l: l, m: m, want: make([]api.Cell, m.Cells())}
	for i := range d.want {
		d.set(i, junk(i))
	}
	return d
}

// junk returns a cell that is not like the one at any other address.
func junk(i int) api.Cell {
	return api.Cell{N: 100000 + uint64(i), K: "x" + strings.Repeat("\xff", i%30), M: 200000 + uint64(i)}
}

// set changes a cell, as another machine does between two steps.
func (d *database) set(i int, c api.Cell) {
	d.m.Poke(i, c)
	d.want[i] = c
}

// setN stores a number in a cell, with parts beside it that have no meaning.
func (d *database) setN(i int, n uint64) {
	c := junk(i)
	c.N = n
	d.set(i, c)
}

// put stores a page in a node, whose latch is not changing.
func (d *database) put(id uint64, p api.Page) {
	d.setN(d.l.Latch(id), id*8+id%2)
	d.set(d.l.Head(id), api.Cell{N: uint64(len(p.Slots)), M: uint64(p.Level)})
	d.set(d.l.High(id), api.Cell{K: p.High})
	if p.Last {
		d.set(d.l.High(id), api.Cell{M: 1})
	}
	d.setN(d.l.Right(id), p.Right)
	for i, s := range p.Slots {
		d.set(d.l.Slot(id, i), api.Cell{N: s.Ref, K: s.Key, M: 77})
	}
}

// expect reports an error if a cell is not as it should be.
func (d *database) expect(t *testing.T, promise string) {
	t.Helper()
	for i, want := range d.want {
		if d.m.Peek(i) != want {
			t.Fatalf("%s: cell %d is %#v, want %#v", promise, i, d.m.Peek(i), want)
		}
	}
}

// step makes a step of a machine that has not finished, which must be one access, and reports whether it has finished with it.
func (d *database) step(t *testing.T, x machine) bool {
	t.Helper()
	expectNone(t, "P2.4: before the end", x)
	accesses := d.m.Accesses()
	finished := x.Step(d.m)
	if d.m.Accesses() != accesses+1 {
		t.Fatalf("P2.4: %d accesses in one step", d.m.Accesses()-accesses)
	}
	return finished
}

// run makes all steps of a machine.
func (d *database) run(t *testing.T, x machine) {
	t.Helper()
	for steps := 0; !d.step(t, x); steps++ {
		if steps > patience {
			t.Fatal("P11.1, P11.2: the machine does not finish")
		}
	}
	d.expectFinished(t, x)
}

// expectFinished makes three more steps of a machine, which must be no accesses.
func (d *database) expectFinished(t *testing.T, x machine) {
	t.Helper()
	accesses := d.m.Accesses()
	for range 3 {
		if !x.Step(d.m) {
			t.Fatal("P2.4: a finished machine says that it has not finished")
		}
	}
	if d.m.Accesses() != accesses {
		t.Fatal("P2.4: a finished machine makes an access")
	}
}

// found is the result of a machine. A Find has no low key.
type found struct {
	id   uint64
	page api.Page
	low  string
}

// resultOf returns the result of a machine.
func resultOf(x machine) found {
	if b, ok := x.(*Below); ok {
		id, p, low := b.Node()
		return found{id, p, low}
	}
	id, p := x.(*Find).Node()
	return found{id: id, page: p}
}

// answersFind reports whether a node is on the level that a Find looks for, and ends behind its key.
func (r found) answersFind(f *Find) bool {
	return r.page.Level == f.level && (r.page.Last || f.key < r.page.High)
}

// answersBelow reports whether a node is the leaf that a Below looks for, as its low key and its high key say.
func (r found) answersBelow(b *Below) bool {
	if b.last {
		return r.page.Level == 0 && r.page.Last
	}
	return r.page.Level == 0 && r.low < b.key && (r.page.Last || b.key <= r.page.High)
}

// expectNode reports an error if the result of a machine is not the right one.
func expectNode(t *testing.T, promise string, x machine, want found) {
	t.Helper()
	if r := resultOf(x); r.id != want.id || r.low != want.low || !same(r.page, want.page) {
		t.Fatalf("%s: %s finds %#v, want %#v", promise, nameOf(x), r, want)
	}
}

// expectNone reports an error if a machine has a result.
func expectNone(t *testing.T, promise string, x machine) {
	t.Helper()
	expectNode(t, promise, x, found{})
}

// nameOf describes a machine.
func nameOf(x machine) string {
	if b, ok := x.(*Below); ok {
		if b.last {
			return "Below of the end"
		}
		return "Below of " + strconv.Quote(b.key)
	}
	return "Find of " + strconv.Quote(x.(*Find).key)
}

// same reports whether two pages are equal.
func same(p, q api.Page) bool {
	return p.Level == q.Level && p.High == q.High && p.Last == q.Last && p.Right == q.Right && slices.Equal(p.Slots, q.Slots)
}

// member is a node of a tree.
type member struct {
	id   uint64
	low  string
	page api.Page
}

// tree is a database with a tree: the nodes of each level, from the left to the right.
type tree struct {
	*database
	levels [][]*member
	x      uint64   // the state of a sequence of numbers that seem random
	free   []uint64 // the numbers of nodes that are not in use
}

// roll returns a number less than n.
func (g *tree) roll(n int) int {
	g.x = g.x*6364136223846793005 + 1442695040888963407
	return int(g.x >> 33 % uint64(n))
}

// some returns some of the keys, in their order.
func (g *tree) some(keys []string, n int) []string {
	var list []string
	for i, k := range keys {
		if g.roll(len(keys)-i) < n-len(list) {
			list = append(list, k)
		}
	}
	return list
}

// universe is the keys of trees, in ascending order, the empty one included.
func universe() []string {
	list := []string{"", strings.Repeat("a", api.MaxKey), strings.Repeat("\xff", api.MaxKey), strings.Repeat("b", api.MaxKey+1)}
	for _, s := range []string{"\x00", "a", "b", "\xff"} {
		list = append(list, s)
		for _, u := range []string{"\x00", "a", "\xff"} {
			list = append(list, s+u, s+u+"\x00", s+u+"b")
		}
	}
	slices.Sort(list)
	return list
}

// within returns the keys from low up to high, or to the end.
func within(keys []string, low, high string, last bool) []string {
	return slices.DeleteFunc(slices.Clone(keys), func(k string) bool { return k < low || !last && k >= high })
}

// level adds a level whose nodes have these low keys. Each node gets slots from the function.
func (g *tree) level(lows []string, slots func(low, high string, last bool) []api.Slot) {
	var nodes []*member
	for i, low := range lows {
		p := api.Page{Level: len(g.levels), Last: i == len(lows)-1}
		if !p.Last {
			p.High = lows[i+1]
		}
		p.Slots = slots(low, p.High, p.Last)
		nodes = append(nodes, &member{id: g.free[i], low: low, page: p})
	}
	for i := range nodes[1:] {
		nodes[i].page.Right = nodes[i+1].id
	}
	g.free = g.free[len(nodes):]
	g.levels = append(g.levels, nodes)
}

// leaves adds the leaves. What their slots refer to looks like nodes.
func (g *tree) leaves(keys []string, fanout int) {
	lows := append([]string{""}, g.some(keys[1:], g.roll(12))...)
	g.level(lows, func(low, high string, last bool) []api.Slot {
		var slots []api.Slot
		for _, k := range g.some(within(keys, low, high, last), g.roll(fanout+1)) {
			slots = append(slots, api.Slot{Key: k, Ref: uint64(g.roll(40)) + 1})
		}
		return slots
	})
}

// grow adds a level of nodes above the other ones. Some nodes of the level below have no slot there yet.
func (g *tree) grow(fanout int) {
	below := map[string]uint64{}
	posted := []string{""}
	for _, n := range g.levels[len(g.levels)-1] {
		below[n.low] = n.id
		if n.low != "" && g.roll(4) > 0 {
			posted = append(posted, n.low)
		}
	}
	var lows []string
	size := 0
	for _, k := range posted {
		if size == 0 {
			lows = append(lows, k)
			size = g.roll(fanout) + 1
		}
		size--
	}
	g.level(lows, func(low, high string, last bool) []api.Slot {
		var slots []api.Slot
		for _, k := range within(posted, low, high, last) {
			slots = append(slots, api.Slot{Key: k, Ref: below[k]})
		}
		return slots
	})
}

// newTree returns a tree that depends on the seed only: with one level up to four, whose highest one may have several nodes.
func newTree(t *testing.T, seed int) *tree {
	t.Helper()
	fanout := api.MinFanout + seed%3
	g := &tree{database: start(t, 60, fanout), x: uint64(seed)}
	for range 16 {
		g.roll(1)
	}
	for id := range uint64(60) {
		g.free = append(g.free, id+1)
	}
	for i := range g.free {
		k := i + g.roll(len(g.free)-i)
		g.free[i], g.free[k] = g.free[k], g.free[i]
	}
	g.leaves(universe(), fanout)
	for range g.roll(4) {
		g.grow(fanout)
	}
	for _, nodes := range g.levels {
		for _, n := range nodes {
			g.put(n.id, n.page)
		}
	}
	g.setN(g.l.Root(), g.root().id)
	return g
}

// root returns the root.
func (g *tree) root() *member { return g.levels[len(g.levels)-1][0] }

// covering returns the node of a level that covers a key, by what the chapter says of the keys that a node covers.
func (g *tree) covering(key string, level int) found {
	for _, n := range g.levels[level] {
		if key >= n.low && (n.page.Last || key < n.page.High) {
			return found{id: n.id, page: n.page}
		}
	}
	return found{}
}

// leafBelow returns the leaf with the greatest keys that are less than a key, or the last leaf.
func (g *tree) leafBelow(key string, last bool) found {
	var f found
	for _, n := range g.levels[0] {
		if last || n.low < key {
			f = found{n.id, n.page, n.low}
		}
	}
	return f
}

// member returns the node with a number.
func (g *tree) member(id uint64) *member {
	for _, nodes := range g.levels {
		for _, n := range nodes {
			if n.id == id {
				return n
			}
		}
	}
	return nil
}

// pathOfFind returns the nodes that a Find reads, as P11.1 says.
func (g *tree) pathOfFind(key string, level int) []uint64 {
	n := g.root()
	path := []uint64{n.id}
	for {
		switch {
		case !n.page.Last && key >= n.page.High:
			n = g.member(n.page.Right)
		case n.page.Level > level:
			var child uint64
			for _, s := range n.page.Slots {
				if s.Key <= key {
					child = s.Ref
				}
			}
			n = g.member(child)
		default:
			return path
		}
		path = append(path, n.id)
	}
}

// pathOfBelow returns the nodes that a Below reads, as P11.2 says.
func (g *tree) pathOfBelow(key string, last bool) []uint64 {
	n := g.root()
	path := []uint64{n.id}
	for {
		switch {
		case !n.page.Last && (last || n.page.High < key):
			n = g.member(n.page.Right)
		case n.page.Level > 0:
			var child uint64
			for _, s := range n.page.Slots {
				if last || s.Key < key {
					child = s.Ref
				}
			}
			n = g.member(child)
		default:
			return path
		}
		path = append(path, n.id)
	}
}

// probes returns keys of all kinds: those of the universe, and beside each of them.
func probes() []string {
	list := universe()
	for _, k := range universe() {
		list = append(list, k+"\x00", k+"\xff")
		if k != "" {
			list = append(list, k[:len(k)-1])
		}
	}
	slices.Sort(list)
	return slices.Compact(list)
}

// noLevels are levels that no tree of these tests has.
var noLevels = []int{4, 5, 63, 1 << 32, math.MaxInt, -1, -2, -1 << 32, math.MinInt}
