package post

import (
	"slices"
	"strconv"
	"testing"

	"blinktree/api"
	"blinktree/insert"
	"blinktree/latch"
	"blinktree/leaflock"
	"blinktree/memory"
)

// duel is two jobs that are done at the same time in a tree.
type duel struct {
	r             *tree
	first, second job
}

// length returns how many steps a job of a duel makes if the other one makes none.
func (u duel) length(t *testing.T, j job) int {
	t.Helper()
	d := newDatabase(t, u.r)
	p := d.begin(j)
	for steps := range patience {
		if d.step(t, p) {
			return steps + 1
		}
	}
	t.Fatal("P14.1, P14.2: a Post does not finish")
	return 0
}

// play makes some steps of the first Post and of the second one, then one pick for each bit of order but the highest, and then picks in
// turn until both have finished. It returns the tree, and how many of the two have been posted.
func (u duel) play(t *testing.T, first, second, order int) (*tree, int) {
	t.Helper()
	d := newDatabase(t, u.r)
	posts := []*Post{d.begin(u.first), d.begin(u.second)}
	pick := func(k int) bool {
		accesses := d.m.Accesses()
		finished := posts[k].Step(d.m)
		if d.m.Accesses() > accesses+1 {
			t.Fatal("P2.4: more than one access in a step")
		}
		return finished
	}
	for range first {
		pick(0)
	}
	for range second {
		pick(1)
	}
	for ; order > 1; order >>= 1 {
		pick(order & 1)
	}
	for picks, ended := 0, 0; ended < 2; picks++ {
		if picks > 2*patience {
			t.Fatal("P14.3: the Posts wait for each other")
		}
		ended = 0
		for _, k := range []int{picks % 2, 1 - picks%2} {
			if pick(k) {
				ended++
			}
		}
	}
	posted := 0
	for _, p := range posts {
		if p.Posted() {
			posted++
		}
	}
	d.expectFound(t, u.r)
	return d.survey(t), posted
}

// tries calls a function with many orders of a duel: after each few steps of both Posts, one order of the next seven picks.
func (u duel) tries(t *testing.T, every int, try func(r *tree, posted int)) {
	t.Helper()
	n := 0
	for first := 0; first < u.length(t, u.first); first += every {
		for second := range u.length(t, u.second) {
			try(u.play(t, first, second, 1<<7|n*37%128))
			n++
		}
	}
}

// duels returns duels in trees that are so high, and in which this many nodes have not been posted.
func duels(height, jobs, done, left int) []duel {
	var list []duel
	for seed := 0; len(list) < 3; seed++ {
		if r, all := newTree(seed, api.MinFanout, done, left); len(all) == jobs && r.at(r.root).Page.Level == height {
			list = append(list, duel{r, all[0], all[1%jobs]})
		}
	}
	return list
}

// P14.2: two Posts that find no node on the level grow the tree once.
func TestTwoGrow(t *testing.T) {
	for _, u := range duels(0, 2, 0, 5) {
		u.tries(t, 2, func(r *tree, posted int) {
			if posted != 2 || len(r.nodes) != len(u.r.nodes)+1 {
				t.Fatalf("P14.2: %d Posts are posted, and %d new nodes are in use", posted, len(r.nodes)-len(u.r.nodes))
			}
			r.expectComplete(t)
		})
	}
}

// P14.3: the same if no node is left, or only the one for the root.
func TestTwoGrowWithFewNodes(t *testing.T) {
	for left := range 2 {
		for _, u := range duels(0, 2, 0, left) {
			u.tries(t, 3, func(r *tree, posted int) {
				if posted != 2*left || len(r.nodes) != r.limit {
					t.Fatalf("P14.3: %d nodes are left, and %d Posts are posted", left, posted)
				}
			})
		}
	}
}

// P14.1: two Posts enter the same slot once.
func TestTwoPostTheSame(t *testing.T) {
	for height := range 2 {
		for _, u := range duels(height, 1, 2*height, 5) {
			after := u.r.copy()
			after.post(u.first)
			u.tries(t, 2, func(r *tree, posted int) {
				if posted != 2 || len(r.nodes) != len(after.nodes) {
					t.Fatalf("P14.1: %d Posts are posted, and %d nodes are in use", posted, len(r.nodes))
				}
				r.expectComplete(t)
			})
		}
	}
}

// full returns the duels in which both jobs need a node on level 1 that is full, and is the root.
func full(left int) []duel {
	var list []duel
	for seed := 0; len(list) < 3; seed++ {
		r, all := newTree(seed, api.MinFanout, 2, left)
		top := r.at(r.root).Page
		if len(all) == 2 && top.Level == 1 && top.Last && len(top.Slots) == api.MinFanout {
			list = append(list, duel{r, all[0], all[1]})
		}
	}
	return list
}

// P14.1, P14.2, P14.3: two Posts need a root that is full. One of them splits it and grows the tree, and the other one finds room. If one
// node is left, the first one does not find another one for the root; if none is left, neither is posted.
func TestTwoSplit(t *testing.T) {
	for left, want := range []int{0, 1, 2, 2} {
		for _, u := range full(left) {
			u.tries(t, 3, func(r *tree, posted int) {
				if posted != want || len(r.nodes) != len(u.r.nodes)+min(left, 2) {
					t.Fatalf("P14.3: %d nodes are left, %d Posts are posted, and %d nodes are in use", left, posted, len(r.nodes))
				}
				if want == 2 {
					r.expectComplete(t)
				}
			})
		}
	}
}

// caller is a machine that inserts keys into the leaves, and posts the new ones at once or later.
type caller struct {
	a      *arena
	slots  []api.Slot // what is to be inserted
	late   int        // how many new nodes it posts together
	jobs   []job
	now    machine
	locked []api.Held
}

func (c *caller) Step(m *memory.Memory) bool {
	if c.now != nil && c.now.Step(m) {
		c.now = c.next()
	}
	return c.now == nil
}

// next returns the next part of what the caller does, or nil if there is none.
func (c *caller) next() machine {
	switch x := c.now.(type) {
	case *leaflock.Lock:
		s := c.slots[0]
		return insert.NewInsert(c.a.l, x.Held(), s.Key, s.Ref)
	case *insert.Insert:
		c.locked = []api.Held{x.Left()}
		if right := x.Right(); right.ID != 0 {
			c.locked = append(c.locked, right)
			c.jobs = append(c.jobs, job{1, x.Separator(), right.ID})
		}
		if x.Err() == api.OK {
			c.a.there = append(c.a.there, c.slots[0])
		}
		c.slots = c.slots[1:]
	case *Post:
		c.a.posted(x)
	}
	if len(c.locked) > 0 {
		h := c.locked[0]
		c.locked = c.locked[1:]
		return latch.NewRelease(c.a.l.Latch(h.ID), h.Word)
	}
	return c.goOn()
}

// goOn goes on with a Post, or with the next key.
func (c *caller) goOn() machine {
	if len(c.jobs) >= c.late || len(c.jobs) > 0 && len(c.slots) == 0 {
		k := c.a.roll(len(c.jobs))
		j := c.jobs[k]
		c.jobs = slices.Delete(c.jobs, k, k+1)
		return c.a.begin(j)
	}
	if len(c.slots) == 0 {
		return nil
	}
	return leaflock.NewLock(c.a.l, c.slots[0].Key, 0)
}

// arena is a database and callers that work on it, with searches for the keys that they have inserted.
type arena struct {
	*database
	*dice
	callers []*caller
	there   []api.Slot
	looking []*search
	words   []uint64 // the word in each latch, the one of Grow first
	owner   []int    // who has locked each of them: the index of a caller, or nobody
	failed  int      // how many Posts have found no node
	broken  string
}

// nobody is the owner of a latch that is not locked.
const nobody = -1

// newArena returns an empty tree, and callers that insert some keys.
func newArena(t *testing.T, seed, callers, nodes int, keys []string) *arena {
	t.Helper()
	a := &arena{database: newDatabase(t, emptyTree(api.MinFanout, nodes)), dice: newDice(seed)}
	for range callers {
		a.callers = append(a.callers, &caller{a: a, late: 1 + a.roll(2)*a.roll(9)})
	}
	for i, key := range shuffled(a.dice, keys) {
		c := a.callers[a.roll(callers)]
		c.slots = append(c.slots, api.Slot{Key: key, Ref: uint64(i) + 1})
	}
	for _, c := range a.callers {
		c.now = c.goOn()
	}
	for i := range nodes + 1 {
		a.words = append(a.words, a.latchWord(i))
		a.owner = append(a.owner, nobody)
	}
	return a
}

// latchWord returns the word in the latch of node i, or in Grow if i is 0.
func (a *arena) latchWord(i int) uint64 {
	if i == 0 {
		return a.m.Peek(a.l.Grow()).N
	}
	return a.word(uint64(i))
}

// posted looks at the result of a Post.
func (a *arena) posted(p *Post) {
	if p.Posted() {
		return
	}
	a.failed++
	if a.used() != uint64(a.l.Config().Nodes) {
		a.broken = "P14.3: a node is left, but a Post has found none"
	}
}

// follow looks at the latches after a step of a caller.
func (a *arena) follow(k int) {
	for i, before := range a.words {
		after := a.latchWord(i)
		a.words[i] = after
		switch {
		case before == after:
			continue
		case latch.Locked(before) && a.owner[i] != k:
			a.broken = "P14.1: latch " + strconv.Itoa(i) + " is changed, but somebody else has locked it"
		case !latch.Locked(before) && after != latch.Lock(before) && (after != 1 || before < unusedWord):
			a.broken = "P14.1: latch " + strconv.Itoa(i) + " is changed, but nobody has locked it"
		}
		a.owner[i] = nobody
		if latch.Locked(after) {
			a.owner[i] = k
		}
	}
}

// pick makes a step of a caller, and some of the searches.
func (a *arena) pick(t *testing.T, k int) {
	t.Helper()
	accesses, before := a.m.Accesses(), a.callers[k].now
	a.callers[k].Step(a.m)
	if n := a.m.Accesses() - accesses; before != nil && n != 1 {
		t.Fatalf("P2.4: %d accesses in one step", n)
	}
	if a.follow(k); a.broken != "" {
		t.Fatal(a.broken)
	}
	for len(a.looking) < 3 && len(a.there) > 0 {
		a.looking = append(a.looking, a.look(0, a.there[a.roll(len(a.there))]))
	}
	for _, x := range a.looking {
		a.advance(t, x, a.roll(2))
	}
	a.looking = slices.DeleteFunc(a.looking, func(x *search) bool { return x.done })
}

// work picks callers until all of them have finished: in turn, or in an order that seems random, in which the first ones of those that
// have not finished are favoured. It returns the tree.
func (a *arena) work(t *testing.T, inTurn bool) *tree {
	t.Helper()
	for picks := 0; ; picks++ {
		var working []int
		for k, c := range a.callers {
			if c.now != nil {
				working = append(working, k)
			}
		}
		if len(working) == 0 {
			break
		}
		if picks > 400000 {
			t.Fatal("P14.3: the callers wait for each other")
		}
		k := picks % len(working)
		if !inTurn {
			k = min(a.roll(len(working)), a.roll(len(working)))
		}
		a.pick(t, working[k])
	}
	r := a.survey(t)
	slices.SortFunc(a.there, func(s, u api.Slot) int {
		if s.Key < u.Key {
			return -1
		}
		return 1
	})
	if !slices.Equal(r.leafSlots(), a.there) {
		t.Fatalf("P14.4: in the leaves are %v, want %v", r.leafSlots(), a.there)
	}
	a.expectFound(t, r)
	return r
}

// P14.1, P14.2, P14.4: many callers that insert keys and post nodes in many orders, while others look for the keys that have been inserted.
func TestManyCallers(t *testing.T) {
	for seed := range 50 {
		a := newArena(t, seed, 2+seed%13, 150, universe())
		r := a.work(t, seed%3 == 0)
		r.expectComplete(t)
		if len(a.there) != 121 || a.failed != 0 || r.at(r.root).Page.Level < 2 {
			t.Fatalf("P14.1, P14.2: %d keys are there, %d Posts have found no node, and the root is on level %d",
				len(a.there), a.failed, r.at(r.root).Page.Level)
		}
	}
}

// P14.3: the same with too few nodes. What has not been posted is found all the same.
func TestManyCallersWithFewNodes(t *testing.T) {
	failed, fewer := 0, 0
	for seed := range 80 {
		a := newArena(t, seed, 2+seed%7, 1+seed%40, universe())
		a.work(t, seed%3 == 0)
		failed += a.failed
		fewer += 121 - len(a.there)
	}
	if failed < 60 || fewer < 500 {
		t.Errorf("the test does too little: %d Posts have found no node, and %d keys no room", failed, fewer)
	}
}

// P14.2, P14.4: all nodes of a tree of leaves only are posted at the same time, while others look for all keys.
func TestManyPosts(t *testing.T) {
	for seed := range 40 {
		r, jobs := newTree(seed, api.MinFanout, 0, 99)
		d, g := newDatabase(t, r), newDice(seed)
		var posts []*Post
		for _, j := range jobs {
			posts = append(posts, d.begin(j))
		}
		looking := d.lookAll(r)
		for picks := 0; len(posts) > 0; picks++ {
			if picks > 400000 {
				t.Fatal("P14.3: the Posts wait for each other")
			}
			k := g.roll(len(posts))
			if p := posts[k]; p.Step(d.m) {
				if !p.Posted() {
					t.Fatal("P14.3: a node is left, but a Post has found none")
				}
				posts = slices.Delete(posts, k, k+1)
			}
			if len(looking) > 0 {
				x := looking[g.roll(len(looking))]
				d.advance(t, x, g.roll(4))
			}
		}
		after := d.survey(t)
		after.expectComplete(t)
		d.expectFound(t, after)
		if !slices.Equal(after.leafSlots(), r.leafSlots()) {
			t.Fatal("P14.4: the leaves have changed")
		}
	}
}
