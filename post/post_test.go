package post

import (
	"math"
	"slices"
	"strconv"
	"testing"

	"blinktree/api"
	"blinktree/latch"
	"blinktree/memory"
)

// fanouts are those that are tried, the least one included.
var fanouts = []int{api.MinFanout, 5, 6}

// leaf returns a leaf with these keys, which is the last one if there is no high key.
func leaf(id uint64, high string, right uint64, keys ...string) api.Held {
	h := api.Held{ID: id, Word: 40 * id, Page: api.Page{High: high, Last: high == "", Right: right}}
	for i, key := range keys {
		h.Page.Slots = append(h.Page.Slots, api.Slot{Key: key, Ref: uint64(i) + 1})
	}
	return h
}

// P14.1, P14.2: the example. The first leaf has been split.
func TestFirstSplit(t *testing.T) {
	r := emptyTree(4, 3)
	r.nodes = []api.Held{leaf(1, "d", 2, "a", "b", "c"), leaf(2, "", 0, "d", "e")}
	d := newDatabase(t, r)
	p := NewPost(d.l, 1, "d", 2)
	if d.m.Accesses() != 0 {
		t.Error("P2.4: making a machine makes an access")
	}
	d.run(t, p, true)
	root := api.Page{Level: 1, Slots: []api.Slot{{Key: "", Ref: 1}, {Key: "d", Ref: 2}}, Last: true}
	// It was released after it had been written, and changed once.
	r.nodes, r.root = append(r.nodes, api.Held{ID: 3, Word: 4, Page: root}), 3
	d.expect(t, "P14.2: the example", r)
	for _, child := range []uint64{2, 1} {
		d.run(t, NewPost(d.l, 1, "d", child), true)
		d.expect(t, "P14.1: the slot is there already", r)
	}
}

// P14.1, P14.2: the root is full, and is split when a leaf is posted. Then the tree grows.
func TestRootIsSplit(t *testing.T) {
	r := emptyTree(4, 8)
	r.nodes = []api.Held{
		leaf(1, "b", 2, "a"), leaf(2, "c", 3, "b"), leaf(3, "d", 6, "c"), leaf(4, "", 0, "f"),
		{ID: 5, Word: 12, Page: api.Page{Level: 1, Slots: []api.Slot{{Ref: 1}, {Key: "b", Ref: 2}, {Key: "c", Ref: 3}, {Key: "f", Ref: 4}}, Last: true}},
		leaf(6, "f", 4, "d"),
	}
	r.root = 5
	d := newDatabase(t, r)
	d.run(t, NewPost(d.l, 1, "d", 6), true)
	r.nodes[4] = api.Held{ID: 5, Word: 16, Page: api.Page{
		Level: 1, Slots: []api.Slot{{Ref: 1}, {Key: "b", Ref: 2}, {Key: "c", Ref: 3}}, High: "d", Right: 7,
	}}
	r.nodes = append(r.nodes,
		api.Held{ID: 7, Page: api.Page{Level: 1, Slots: []api.Slot{{Key: "d", Ref: 6}, {Key: "f", Ref: 4}}, Last: true}},
		api.Held{ID: 8, Word: 4, Page: api.Page{Level: 2, Slots: []api.Slot{{Ref: 5}, {Key: "d", Ref: 7}}, Last: true}})
	r.root = 8
	d.expect(t, "P14.1, P14.2: the root is split", r)
}

// P14.1: the slot gets its place, whatever it is, in a node that has room. A separator that is less than all is that of the leftmost node,
// which has its slot.
func TestPlaces(t *testing.T) {
	for _, separator := range []string{"", "\x00", "b", "bb", "c\xff", "d", "d\x00", "\xff\xff"} {
		r := emptyTree(4, 5)
		r.nodes = []api.Held{leaf(1, "", 0), leaf(2, "", 0), leaf(3, "", 0), {ID: 4, Word: 400}}
		r.root = 4
		slots := []api.Slot{{Key: "", Ref: 1}, {Key: "b", Ref: 2}, {Key: "d", Ref: 3}}
		r.nodes[3].Page = api.Page{Level: 1, Slots: slots, Last: true}
		d := newDatabase(t, r)
		d.run(t, NewPost(d.l, 1, separator, 77), true)
		if !slices.ContainsFunc(slots, func(s api.Slot) bool { return s.Key == separator }) {
			i := 0
			for i < 3 && slots[i].Key < separator {
				i++
			}
			r.write(4, api.Page{Level: 1, Slots: slices.Insert(slices.Clone(slots), i, api.Slot{Key: separator, Ref: 77}), Last: true})
		}
		d.expect(t, "P14.1: "+strconv.Quote(separator), r)
	}
}

// P14.1, P14.2, P14.3, P14.4: trees with some nodes that have not been posted. They are posted in an order that seems random, some of them
// twice.
func TestPosts(t *testing.T) {
	kinds := map[kind]int{}
	for seed := range 150 {
		for done := range 4 {
			r, jobs := newTree(seed, fanouts[seed%3], done, 99)
			d := newDatabase(t, r)
			for i, j := range append(jobs, jobs[:len(jobs)/2]...) {
				kinds[r.kind(j)]++
				if !r.post(j) {
					t.Fatal("too few nodes")
				}
				d.run(t, d.begin(j), true)
				d.expect(t, "P14.1, P14.2", r)
				if i >= len(jobs) {
					continue
				}
				if i%4 == 0 {
					d.expectFound(t, r)
				}
			}
			d.survey(t)
			r.expectComplete(t)
			d.expectFound(t, r)
		}
	}
	for _, k := range []kind{{there: true}, {}, {splits: 1}, {splits: 2}, {grown: true}, {splits: 1, grown: true}, {splits: 2, grown: true}} {
		if kinds[k] < 5 {
			t.Errorf("the test does too little: %d Posts are %+v", kinds[k], k)
		}
	}
}

// P14.3: the same with too few nodes. Some of the Posts find none, others still succeed, and nothing is locked after that.
func TestPostsWithFewNodes(t *testing.T) {
	kinds := map[kind]int{}
	for seed := range 150 {
		for done := range 4 {
			for left := range 4 {
				r, jobs := newTree(seed, fanouts[seed%3], done, left)
				d := newDatabase(t, r)
				for _, j := range append(jobs, jobs...) {
					kinds[r.kind(j)]++
					want := r.post(j)
					d.run(t, d.begin(j), want)
					d.expect(t, "P14.3: few nodes are left", r)
				}
				d.survey(t)
				d.expectFound(t, r)
			}
		}
	}
	for _, k := range []kind{
		{missing: "split"}, {missing: "root"}, {splits: 1, missing: "split"}, {splits: 1, missing: "root"}, {there: true}, {}, {splits: 1},
	} {
		if kinds[k] < 5 {
			t.Errorf("the test does too little: %d Posts are %+v", kinds[k], k)
		}
	}
}

// P14.3: whatever the number of nodes in use is, if it is not less than the limit, none is left.
func TestNoNodes(t *testing.T) {
	for _, s := range samples(2) {
		if s.kind.missing == "" || s.kind.splits > 0 {
			continue
		}
		for _, more := range []uint64{0, 1, 1 << 40, math.MaxUint64 - 1<<12} {
			d := newDatabase(t, s.r)
			used := api.Cell{N: d.used() + more}
			d.m.Poke(d.l.Nodes(), used)
			d.run(t, d.begin(s.j), false)
			if d.m.Peek(d.l.Nodes()) != used {
				t.Fatalf("P14.3: %v nodes were in use, and %v are now", used, d.used())
			}
			d.put(s.r)
			d.expect(t, "P14.3: no node is left", s.r)
		}
	}
}

// P14.1: a new node is not needed if the slot is there, or if there is room for it.
func TestNoNodeIsNeeded(t *testing.T) {
	for _, s := range samples(9) {
		if s.kind != (kind{}) && s.kind != (kind{there: true}) {
			continue
		}
		d, r := newDatabase(t, s.r), s.r.copy()
		d.m.Poke(d.l.Nodes(), api.Cell{N: math.MaxUint64})
		r.post(s.j)
		d.run(t, d.begin(s.j), true)
		d.m.Poke(d.l.Nodes(), api.Cell{N: uint64(len(r.nodes))})
		d.expect(t, "P14.1: no node is needed", r)
	}
}

// orders calls a function with all orders of a list.
func orders(list []job, at int, try func(list []job)) {
	if at == len(list) {
		try(list)
		return
	}
	for i := at; i < len(list); i++ {
		list[at], list[i] = list[i], list[at]
		orders(list, at+1, try)
		list[at], list[i] = list[i], list[at]
	}
}

// P14.4: six leaves that have not been posted, or fewer, are posted in all orders. After each of them, all keys are found.
func TestAllOrders(t *testing.T) {
	tried := 0
	for seed := 0; tried < 6; seed++ {
		r, jobs := newTree(seed, api.MinFanout, 0, 9)
		if len(jobs) != 4+tried%3 {
			continue
		}
		tried++
		orders(jobs, 0, func(list []job) {
			r := r.copy()
			d := newDatabase(t, r)
			for _, j := range list {
				r.post(j)
				d.run(t, d.begin(j), true)
				d.expectFound(t, r)
			}
			d.expect(t, "P14.4", r)
			r.expectComplete(t)
		})
	}
}

// P14.1, P14.2: trees with thousands of keys, with the greatest fanout and with the least one, whose nodes are posted late.
func TestLargeTrees(t *testing.T) {
	for _, fanout := range []int{api.MinFanout, 7, api.MaxFanout} {
		for _, late := range []int{1, 5, 1000} {
			g := newDice(fanout + late)
			r := emptyTree(fanout, api.MaxNodes)
			d := newDatabase(t, r)
			var jobs []job
			for i, key := range shuffled(g, manyKeys(30*fanout+600)) {
				if j, _ := r.enter(job{0, key, uint64(i) + 1}); j.child != 0 {
					jobs = append(jobs, j)
				}
				if len(jobs) < late {
					continue
				}
				d.postAll(t, r, shuffled(g, jobs))
				jobs = nil
			}
			d.postAll(t, r, shuffled(g, jobs))
			d.expect(t, "P14.1, P14.2: a large tree", r)
			d.survey(t).expectComplete(t)
			d.expectFound(t, r)
		}
	}
}

// manyKeys returns many keys of several lengths.
func manyKeys(n int) []string {
	var list []string
	for i := range n {
		list = append(list, strconv.Itoa(i*7919))
	}
	return list
}

// postAll stores the tree, in whose leaves something has been entered meanwhile, and posts what is to be posted.
func (d *database) postAll(t *testing.T, r *tree, jobs []job) {
	t.Helper()
	d.put(r)
	for _, j := range jobs {
		r.post(j)
		d.run(t, d.begin(j), true)
	}
}

// P14.1: the level covers a separator by a node that has not been posted itself, and is reached through its left sibling.
func TestThroughRight(t *testing.T) {
	r := emptyTree(4, 9)
	inner := func(id uint64, high string, right uint64, slots ...api.Slot) api.Held {
		return api.Held{ID: id, Word: 4 * id, Page: api.Page{Level: 1, Slots: slots, High: high, Last: high == "", Right: right}}
	}
	r.nodes = []api.Held{
		leaf(1, "b", 2, "a"), leaf(2, "c", 3, "b"), leaf(3, "d", 4, "c"), leaf(4, "", 0, "d"),
		inner(5, "b", 6, api.Slot{Ref: 1}), inner(6, "c", 7, api.Slot{Key: "b", Ref: 2}), inner(7, "", 0, api.Slot{Key: "c", Ref: 3}),
	}
	r.root = 5
	d := newDatabase(t, r)
	d.run(t, NewPost(d.l, 1, "d", 4), true)
	r.write(7, api.Page{Level: 1, Slots: []api.Slot{{Key: "c", Ref: 3}, {Key: "d", Ref: 4}}, Last: true})
	d.expect(t, "P14.1: through Right", r)
	// Now the middle one is posted: the tree grows, although the root has right siblings.
	d.run(t, NewPost(d.l, 2, "b", 6), true)
	r.nodes = append(r.nodes, api.Held{ID: 8, Word: 4, Page: api.Page{Level: 2, Slots: []api.Slot{{Ref: 5}, {Key: "b", Ref: 6}}, Last: true}})
	r.root = 8
	d.expect(t, "P14.2: the old root is the leftmost node", r)
}

// finishes reports an error if a Post does not finish, or makes a step that is not one access.
func finishes(t *testing.T, m *memory.Memory, p *Post) bool {
	t.Helper()
	for range patience {
		accesses := m.Accesses()
		finished := p.Step(m)
		if m.Accesses() != accesses+1 {
			t.Fatal("P2.4: a step does not make one access")
		}
		if finished {
			return p.Posted()
		}
	}
	t.Fatal("rule 1: a Post does not finish")
	return false
}

// Rule 1: for levels that no node has, separators of any kind, and children that do not exist, a Post finishes, and nothing is locked then.
func TestInvalid(t *testing.T) {
	levels := []int{0, 1, 2, 3, 9, -1, -2, math.MaxInt, math.MaxInt - 1, math.MinInt, math.MinInt + 1}
	for seed := range 20 {
		for left := range 3 {
			for _, level := range levels {
				for i, separator := range []string{"", "a", "a\x00", "\xff\xff\xff\xff\xff\xff", string(make([]byte, 100))} {
					r, _ := newTree(seed, 4, 2, left)
					d := newDatabase(t, r)
					child := []uint64{0, 1, 9, 1 << 40, math.MaxUint64}[(seed+i)%5]
					if p := NewPost(d.l, level, separator, child); finishes(t, d.m, p) && level < 0 {
						t.Fatalf("something has been posted into level %d", level)
					}
					for id := uint64(1); id <= d.used(); id++ {
						if latch.Locked(d.word(id)) || latch.Changing(d.word(id)) {
							t.Fatalf("P14.3: node %d is locked", id)
						}
					}
					if d.m.Peek(d.l.Grow()).N != growWord {
						t.Fatal("P14.3: Grow is locked")
					}
				}
			}
		}
	}
}

// Rule 1: in a damaged memory, too, a Post finishes, if nothing is locked and no links form a circle.
func TestDamaged(t *testing.T) {
	for _, s := range samples(2) {
		for _, n := range []uint64{0, 1 << 40, math.MaxUint64} {
			roots, counts, links := newDatabase(t, s.r), newDatabase(t, s.r), newDatabase(t, s.r)
			roots.m.Poke(roots.l.Root(), api.Cell{N: n})
			counts.m.Poke(counts.l.Nodes(), api.Cell{N: n})
			for _, h := range s.r.nodes {
				links.m.Poke(links.l.High(h.ID), api.Cell{})
				links.m.Poke(links.l.Right(h.ID), api.Cell{N: n})
			}
			for _, d := range []*database{roots, counts, links} {
				finishes(t, d.m, d.begin(s.j))
			}
		}
	}
}
