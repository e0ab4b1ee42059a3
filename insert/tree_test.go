package insert

import (
	"slices"
	"strings"
	"testing"

	"blinktree/api"
	"blinktree/descent"
	"blinktree/page"
)

// member is a node of a tree.
type member struct {
	id   uint64
	low  string
	page api.Page
}

// tree is a database with a tree: the nodes of each level, from the left to the right.
type tree struct {
	*database
	levels [][]*member
	x      uint64   // the state of a sequence of numbers that seem random
	free   []uint64 // numbers of nodes
}

// inUse is the number of nodes of a tree that are in use. The other ones are free.
const inUse, inAll = 40, 44

// roll returns a number less than n.
func (g *tree) roll(n int) int {
	g.x = g.x*6364136223846793005 + 1442695040888963407
	return int(g.x >> 33 % uint64(n))
}

// some returns some of the keys, in their order.
func (g *tree) some(keys []string, n int) []string {
	var list []string
	for i, k := range keys {
		if g.roll(len(keys)-i) < n-len(list) {
			list = append(list, k)
		}
	}
	return list
}

// within returns the keys from low up to high, or to the end.
func within(keys []string, low, high string, last bool) []string {
	return slices.DeleteFunc(slices.Clone(keys), func(k string) bool { return k < low || !last && k >= high })
}

// level adds a level whose nodes have these low keys. Each node gets slots from the function.
func (g *tree) level(lows []string, slots func(low, high string, last bool) []api.Slot) {
	var nodes []*member
	for i, low := range lows {
		p := api.Page{Level: len(g.levels), Last: i == len(lows)-1}
		if !p.Last {
			p.High = lows[i+1]
		}
		p.Slots = slots(low, p.High, p.Last)
		nodes = append(nodes, &member{id: g.free[i], low: low, page: p})
	}
	for i := range nodes[1:] {
		nodes[i].page.Right = nodes[i+1].id
	}
	g.free = g.free[len(nodes):]
	g.levels = append(g.levels, nodes)
}

// leaves adds the leaves. What their slots refer to looks like nodes. Most of them are full.
func (g *tree) leaves(fanout int) {
	keys := append(universe(), strings.Repeat("a", api.MaxKey), strings.Repeat("\xff", api.MaxKey))
	slices.Sort(keys)
	lows := append([]string{""}, g.some(keys[1:], g.roll(10))...)
	g.level(lows, func(low, high string, last bool) []api.Slot {
		var slots []api.Slot
		for _, k := range g.some(within(keys, low, high, last), fanout-g.roll(fanout+1)*g.roll(2)) {
			slots = append(slots, api.Slot{Key: k, Ref: uint64(g.roll(inUse)) + 1})
		}
		return slots
	})
}

// grow adds a level of nodes above the other ones. Some nodes of the level below have no slot there yet.
func (g *tree) grow(fanout int) {
	below := map[string]uint64{}
	posted := []string{""}
	for _, n := range g.levels[len(g.levels)-1] {
		below[n.low] = n.id
		if n.low != "" && g.roll(4) > 0 {
			posted = append(posted, n.low)
		}
	}
	var lows []string
	size := 0
	for _, k := range posted {
		if size == 0 {
			lows = append(lows, k)
			size = fanout - g.roll(fanout)*g.roll(2)
		}
		size--
	}
	g.level(lows, func(low, high string, last bool) []api.Slot {
		var slots []api.Slot
		for _, k := range within(posted, low, high, last) {
			slots = append(slots, api.Slot{Key: k, Ref: below[k]})
		}
		return slots
	})
}

// newTree returns a tree that depends on the seed only: with one level up to four, whose highest one may have several nodes. No latch
// is locked.
func newTree(t *testing.T, seed int) *tree {
	t.Helper()
	fanout := api.MinFanout + seed%2
	g := &tree{database: start(t, inUse, inAll, fanout), x: uint64(seed)}
	for range 16 {
		g.roll(1)
	}
	for id := range uint64(inUse) {
		g.free = append(g.free, id+1)
	}
	for i := range g.free {
		k := i + g.roll(len(g.free)-i)
		g.free[i], g.free[k] = g.free[k], g.free[i]
	}
	g.leaves(fanout)
	for range g.roll(4) {
		g.grow(fanout)
	}
	for _, n := range slices.Concat(g.levels...) {
		g.put(api.Held{ID: n.id, Word: 8 * n.id, Page: n.page})
	}
	g.m.Poke(g.l.Root(), api.Cell{N: g.levels[len(g.levels)-1][0].id})
	return g
}

// lock chooses a node and a slot for it, locks the node, and returns the task. On the higher levels, the slot is that of a node that has
// none yet. If there is no such slot, the task is nil.
func (g *tree) lock() *task {
	level := g.roll(len(g.levels))
	n := g.levels[level][g.roll(len(g.levels[level]))]
	var slots []api.Slot
	if level == 0 {
		for _, key := range within(universe(), n.low, n.page.High, n.page.Last) {
			slots = append(slots, api.Slot{Key: key, Ref: 77})
		}
	} else {
		for _, below := range g.levels[level-1] {
			if len(within([]string{below.low}, n.low, n.page.High, n.page.Last)) == 1 {
				slots = append(slots, api.Slot{Key: below.low, Ref: below.id})
			}
		}
	}
	slots = slices.DeleteFunc(slots, func(s api.Slot) bool {
		_, in := page.Find(n.page, s.Key)
		return in
	})
	if len(slots) == 0 {
		return nil
	}
	s := slots[g.roll(len(slots))]
	h := api.Held{ID: n.id, Word: 8*n.id + 1, Page: n.page}
	g.put(h)
	return &task{d: g.database, used: inUse, h: h, key: s.Key, ref: s.Ref}
}

// search is a Find of a key that is in the tree.
type search struct {
	find *descent.Find
	slot api.Slot
	done bool
}

// look begins to look for a slot on a level.
func (d *database) look(level int, s api.Slot) *search {
	return &search{find: descent.NewFind(d.l, s.Key, level), slot: s}
}

// lookAll begins to look for all slots of a level.
func (g *tree) lookAll(level int) []*search {
	var list []*search
	for _, n := range g.levels[level] {
		for _, s := range n.page.Slots {
			list = append(list, g.look(level, s))
		}
	}
	return list
}

// go makes some steps of a search, and reports an error if it ends without the slot.
func (d *database) advance(t *testing.T, x *search, steps int) {
	t.Helper()
	for range steps {
		if x.done {
			return
		}
		if x.done = x.find.Step(d.m); x.done {
			id, p := x.find.Node()
			i, in := page.Find(p, x.slot.Key)
			if id == 0 || !in || p.Slots[i] != x.slot {
				t.Fatalf("P13.3: %q is not found, but node %d, %#v", x.slot.Key, id, p)
			}
		}
	}
}
