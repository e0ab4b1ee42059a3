package commit

import (
	"slices"

	"blinktree/api"
	"blinktree/keys"
	"blinktree/page"
)

// dice is a sequence of numbers that seem random.
type dice struct{ x uint64 }

// newDice returns the sequence of a seed.
func newDice(seed int) *dice {
	g := &dice{x: uint64(seed)}
	for range 16 {
		g.roll(1)
	}
	return g
}

// roll returns a number less than n.
func (g *dice) roll(n int) int {
	g.x = g.x*6364136223846793005 + 1442695040888963407
	return int(g.x >> 33 % uint64(n))
}

// shuffled returns the elements of a list in another order.
func shuffled[T any](g *dice, list []T) []T {
	list = slices.Clone(list)
	for i := range list {
		k := i + g.roll(len(list)-i)
		list[i], list[k] = list[k], list[i]
	}
	return list
}

// universe returns 121 keys in ascending order, the empty one included. Many of them are prefixes of others.
func universe() []string {
	list := []string{""}
	for i := 0; len(list[i]) < 4; i++ {
		for _, s := range []string{"\x00", "a", "\xff"} {
			list = append(list, list[i]+s)
		}
	}
	slices.Sort(list)
	return list
}

// job says that a slot is to be entered into a level. Without a child, nothing is to be done.
type job struct {
	level     int
	separator string
	child     uint64
}

// tree is what must be in the nodes by what the chapters 13 and 14 say, without machines and latches.
type tree struct {
	nodes         []api.Held // node n has the index n - 1; the words are those of latches that are not locked
	root          uint64
	fanout, limit int
}

// at returns a node.
func (r *tree) at(id uint64) *api.Held { return &r.nodes[id-1] }

// take takes a new node, and returns its number, or 0 if none is left.
func (r *tree) take(p api.Page) uint64 {
	if len(r.nodes) >= r.limit {
		return 0
	}
	id := uint64(len(r.nodes)) + 1
	r.nodes = append(r.nodes, api.Held{ID: id, Page: p})
	return id
}

// write changes a node.
func (r *tree) write(id uint64, p api.Page) {
	r.at(id).Page = p
	r.at(id).Word += 4
}

// row returns the nodes of a level from the left to the right, or none if the root is on a lower level.
func (r *tree) row(level int) []api.Held {
	h := *r.at(r.root)
	if h.Page.Level < level {
		return nil
	}
	for h.Page.Level > level {
		h = *r.at(h.Page.Slots[0].Ref)
	}
	list := []api.Held{h}
	for !h.Page.Last {
		h = *r.at(h.Page.Right)
		list = append(list, h)
	}
	return list
}

// covering returns the number of the node of a level that covers a key.
func (r *tree) covering(level int, key string) uint64 {
	list := r.row(level)
	return list[slices.IndexFunc(list, func(h api.Held) bool { return keys.Within(key, "", h.Page.High, h.Page.Last) })].ID
}

// enter does a job, and returns the one that it leaves for the next higher level, and whether no node was missing.
func (r *tree) enter(j job) (job, bool) {
	if r.at(r.root).Page.Level < j.level {
		id := r.take(api.Page{Level: j.level, Slots: []api.Slot{{Key: "", Ref: r.root}}, Last: true})
		if id == 0 {
			return job{}, false
		}
		r.root = id
	}
	id := r.covering(j.level, j.separator)
	p, isNew := page.Insert(r.at(id).Page, j.separator, j.child)
	if !isNew {
		return job{}, true
	}
	if len(p.Slots) <= r.fanout {
		r.write(id, p)
		return job{}, true
	}
	number := r.take(api.Page{})
	if number == 0 {
		return job{}, false
	}
	left, right, separator, _ := page.Split(p, number)
	r.at(number).Page = right
	r.write(id, left)
	return job{j.level + 1, separator, number}, true
}

// post does a job and those that it leaves, and returns whether no node was missing.
func (r *tree) post(j job) bool {
	enough := true
	for j.child != 0 && enough {
		j, enough = r.enter(j)
	}
	return enough
}
