package post

import (
	"slices"

	"blinktree/api"
	"blinktree/keys"
	"blinktree/page"
)

// dice is a sequence of numbers that seem random.
type dice struct{ x uint64 }

// newDice returns the sequence of a seed.
func newDice(seed int) *dice {
	g := &dice{x: uint64(seed)}
	for range 16 {
		g.roll(1)
	}
	return g
}

// roll returns a number less than n.
func (g *dice) roll(n int) int {
	g.x = g.x*6364136223846793005 + 1442695040888963407
	return int(g.x >> 33 % uint64(n))
}

// shuffled returns the elements of a list in another order.
func shuffled[T any](g *dice, list []T) []T {
	list = slices.Clone(list)
	for i := range list {
		k := i + g.roll(len(list)-i)
		list[i], list[k] = list[k], list[i]
	}
	return list
}

// universe returns 121 keys in ascending order, the empty one included. Many of them are prefixes of others.
func universe() []string {
	list := []string{""}
	for i := 0; len(list[i]) < 4; i++ {
		for _, s := range []string{"\x00", "a", "\xff"} {
			list = append(list, list[i]+s)
		}
	}
	slices.Sort(list)
	return list
}

// job says that a slot is to be entered into a level. Without a child, nothing is to be done.
type job struct {
	level     int
	separator string
	child     uint64
}

// tree is what must be in the nodes by what the chapters 13 and 14 say, without machines and latches.
type tree struct {
	nodes         []api.Held // node n has the index n - 1; the words are those of latches that are not locked
	root          uint64
	fanout, limit int
}

// at returns a node.
func (r *tree) at(id uint64) *api.Held { return &r.nodes[id-1] }

// copy returns a tree that does not change with this one.
func (r *tree) copy() *tree {
	c := *r
	c.nodes = slices.Clone(r.nodes)
	return &c
}

// take takes a new node, and returns its number, or 0 if none is left.
func (r *tree) take(p api.Page) uint64 {
	if len(r.nodes) >= r.limit {
		return 0
	}
	id := uint64(len(r.nodes)) + 1
	r.nodes = append(r.nodes, api.Held{ID: id, Page: p})
	return id
}

// write changes a node.
func (r *tree) write(id uint64, p api.Page) {
	r.at(id).Page = p
	r.at(id).Word += 4
}

// row returns the nodes of a level from the left to the right, or none if the root is on a lower level.
func (r *tree) row(level int) []api.Held {
	h := *r.at(r.root)
	if h.Page.Level < level {
		return nil
	}
	for h.Page.Level > level {
		h = *r.at(h.Page.Slots[0].Ref)
	}
	list := []api.Held{h}
	for !h.Page.Last {
		h = *r.at(h.Page.Right)
		list = append(list, h)
	}
	return list
}

// covering returns the number of the node of a level that covers a key.
func (r *tree) covering(level int, key string) uint64 {
	list := r.row(level)
	return list[slices.IndexFunc(list, func(h api.Held) bool { return keys.Within(key, "", h.Page.High, h.Page.Last) })].ID
}

// enter does a job, and returns the one that it leaves for the next higher level, and whether no node was missing.
func (r *tree) enter(j job) (job, bool) {
	if r.at(r.root).Page.Level < j.level {
		id := r.take(api.Page{Level: j.level, Slots: []api.Slot{{Key: "", Ref: r.root}}, Last: true})
		if id == 0 {
			return job{}, false
		}
		r.root = id
	}
	id := r.covering(j.level, j.separator)
	p, isNew := page.Insert(r.at(id).Page, j.separator, j.child)
	if !isNew {
		return job{}, true
	}
	if len(p.Slots) <= r.fanout {
		r.write(id, p)
		return job{}, true
	}
	number := r.take(api.Page{})
	if number == 0 {
		return job{}, false
	}
	left, right, separator, _ := page.Split(p, number)
	r.at(number).Page = right
	r.write(id, left)
	return job{j.level + 1, separator, number}, true
}

// post does a job and those that it leaves, and returns whether no node was missing.
func (r *tree) post(j job) bool {
	enough := true
	for j.child != 0 && enough {
		j, enough = r.enter(j)
	}
	return enough
}

// emptyTree returns the tree of an empty database.
func emptyTree(fanout, limit int) *tree {
	return &tree{nodes: []api.Held{{ID: 1, Page: api.Page{Last: true}}}, root: 1, fanout: fanout, limit: limit}
}

// newTree returns a tree that depends on the seed and on how many of four jobs are done at once only, and the jobs that are left. As many
// nodes are left as is said.
func newTree(seed, fanout, done, left int) (*tree, []job) {
	g := newDice(seed)
	r := emptyTree(fanout, api.MaxNodes)
	var jobs []job
	all := shuffled(g, universe())
	for i, key := range all[:g.roll(len(all))+1] {
		j, _ := r.enter(job{0, key, uint64(i)%60 + 1})
		jobs = append(jobs, j)
		jobs = slices.DeleteFunc(jobs, func(j job) bool { return j.child == 0 })
		for len(jobs) > 0 && g.roll(4) < done {
			k := g.roll(len(jobs))
			j, _ := r.enter(jobs[k])
			jobs = slices.Delete(jobs, k, k+1)
			if j.child != 0 {
				jobs = append(jobs, j)
			}
		}
	}
	for i := range r.nodes {
		r.nodes[i].Word = 4 * uint64(g.roll(1000))
	}
	r.limit = len(r.nodes) + left
	return r, shuffled(g, jobs)
}

// kind says what happens when a job is done.
type kind struct {
	there   bool   // the slot is there already
	splits  int    // how many nodes are split
	grown   bool   // whether the tree grows
	missing string // what a node is missing for: a "split", or the "root"
}

// kind returns what happens when a job is done.
func (r *tree) kind(j job) kind {
	c := r.copy()
	k := kind{}
	for enough := true; j.child != 0; {
		last := j
		if j, enough = c.enter(j); enough {
			continue
		}
		k.missing = "split"
		if c.at(c.root).Page.Level < last.level {
			k.missing = "root"
		}
	}
	k.grown = c.root != r.root
	k.splits = len(c.nodes) - len(r.nodes)
	if k.grown {
		k.splits--
	}
	k.there = k.missing == "" && slices.EqualFunc(c.nodes, r.nodes, func(h, g api.Held) bool { return h.Word == g.Word })
	return k
}

// sample is a tree and a job that is to be done in it.
type sample struct {
	r    *tree
	j    job
	kind kind
}

// samples returns at most n samples of each kind.
func samples(n int) []sample {
	var list []sample
	count := map[kind]int{}
	for seed := range 60 {
		for _, left := range []int{99, 0, 1, 2} {
			r, jobs := newTree(seed, api.MinFanout, seed%4, left)
			for _, j := range append(jobs, jobs...) {
				k := r.kind(j)
				if count[k] < n {
					list = append(list, sample{r.copy(), j, k})
					count[k]++
				}
				r.post(j)
			}
		}
	}
	return list
}
