package insert

import (
	"slices"
	"strconv"
	"testing"

	"blinktree/api"
	"blinktree/latch"
	"blinktree/leaflock"
	"blinktree/memory"
	"blinktree/node"
	"blinktree/page"
)

// job says that a slot is to be inserted into the node of a level that covers its key.
type job struct {
	level int
	slot  api.Slot
}

// caller is a machine that does one job after the other: it locks the node, inserts the slot, and releases the one or two nodes. After a
// split, the new node is to be inserted into the level above.
type caller struct {
	a      *arena
	jobs   []job
	now    machine
	locked []api.Held
}

func (c *caller) Step(m *memory.Memory) bool {
	if c.now != nil && c.now.Step(m) {
		c.now = c.next()
	}
	return c.now == nil
}

// next returns the next part of what the caller does, or nil if there is none.
func (c *caller) next() machine {
	switch x := c.now.(type) {
	case *leaflock.Lock:
		s, h := c.jobs[0].slot, x.Held()
		if _, in := page.Find(h.Page, s.Key); in {
			c.locked = []api.Held{h}
			return c.giveBack()
		}
		return NewInsert(c.a.l, h, s.Key, s.Ref)
	case *Insert:
		c.a.inserted(c.jobs[0], x)
		c.locked = []api.Held{x.Left()}
		if right := x.Right(); right.ID != 0 {
			c.locked = append(c.locked, right)
			c.jobs = append(c.jobs, job{right.Page.Level + 1, api.Slot{Key: x.Separator(), Ref: right.ID}})
		}
		return c.giveBack()
	}
	return c.giveBack()
}

// giveBack releases the next node, the last one first in half of the callers, or goes on with the next job.
func (c *caller) giveBack() machine {
	if len(c.locked) == 0 {
		c.jobs = c.jobs[1:]
		return c.goOn()
	}
	i := len(c.jobs) % len(c.locked)
	h := c.locked[i]
	c.locked = slices.Delete(c.locked, i, i+1)
	return latch.NewRelease(c.a.l.Latch(h.ID), h.Word)
}

// goOn goes on with the next job.
func (c *caller) goOn() machine {
	if len(c.jobs) == 0 {
		return nil
	}
	return leaflock.NewLock(c.a.l, c.jobs[0].slot.Key, c.jobs[0].level)
}

// arena is a tree and callers that work on it, with searches for the keys that they have inserted.
type arena struct {
	*tree
	callers []*caller
	there   []api.Slot // slots that are in the leaves
	refused []string   // keys for which no node was left
	numbers []uint64   // the nodes that have been taken
	broken  string
	looking []*search
}

// tall is the number of levels of an arena, so many that the root is never split.
const tall = 7

// newArena returns a tree with one empty node on each level, and the callers with their keys.
func newArena(t *testing.T, nodes int, lists [][]string) *arena {
	t.Helper()
	a := &arena{tree: &tree{database: start(t, tall, nodes, api.MinFanout)}}
	for level := range tall {
		h := api.Held{ID: uint64(level) + 1, Word: 8 * uint64(level), Page: api.Page{Level: level, Last: true}}
		if level > 0 {
			h.Page.Slots = []api.Slot{{Key: "", Ref: uint64(level)}}
		}
		a.put(h)
	}
	a.m.Poke(a.l.Root(), api.Cell{N: tall})
	for i, list := range lists {
		c := &caller{a: a}
		for n, key := range list {
			c.jobs = append(c.jobs, job{0, api.Slot{Key: key, Ref: uint64(1000*i+n) + 1}})
		}
		c.now = c.goOn()
		a.callers = append(a.callers, c)
	}
	return a
}

// inserted looks at the results of an Insert, and notes what has been broken.
func (a *arena) inserted(j job, x *Insert) {
	left, right := x.Left(), x.Right()
	switch {
	case !same(left, a.held(left.ID)) || !latch.Locked(left.Word):
		a.broken = "P13.1, P13.2: the left node is not in its cells"
	case x.Err() == api.ErrFull:
		if int(a.m.Peek(a.l.Nodes()).N) != a.l.Config().Nodes {
			a.broken = "P13.2: there is a node"
		}
		a.refused = append(a.refused, j.slot.Key)
		return
	case right.ID != 0:
		if !same(right, a.held(right.ID)) || !latch.Locked(right.Word) || left.Page.Right != right.ID || left.Page.High != x.Separator() {
			a.broken = "P13.2: the right node is not in its cells"
		}
		if slices.Contains(a.numbers, right.ID) {
			a.broken = "P13.2: node " + strconv.Itoa(int(right.ID)) + " has been taken twice"
		}
		a.numbers = append(a.numbers, right.ID)
	}
	if j.level == 0 {
		a.there = append(a.there, j.slot)
	}
}

// pick makes a step of a caller, and one of each search.
func (a *arena) pick(t *testing.T, k int) {
	t.Helper()
	accesses, before := a.m.Accesses(), a.callers[k].now
	a.callers[k].Step(a.m)
	if n := a.m.Accesses() - accesses; before != nil && n != 1 {
		t.Fatalf("P2.4: %d accesses in one step", n)
	}
	if a.broken != "" {
		t.Fatal(a.broken)
	}
	for len(a.looking) < 3 && len(a.there) > 0 {
		a.looking = append(a.looking, a.look(0, a.there[a.roll(len(a.there))]))
	}
	for _, s := range a.looking {
		a.advance(t, s, a.roll(2))
	}
	a.looking = slices.DeleteFunc(a.looking, func(s *search) bool { return s.done })
}

// work picks callers until all of them have finished: in turn, or in an order that seems random, in which the first ones of those that
// have not finished are favoured.
func (a *arena) work(t *testing.T, inTurn bool) {
	t.Helper()
	working := slices.Clone(a.callers)
	for picks := 0; len(working) > 0; picks++ {
		if picks > 200000 {
			t.Fatal("P13.1, P13.2: the callers do not finish")
		}
		k := picks % len(working)
		if !inTurn {
			k = min(a.roll(len(working)), a.roll(len(working)))
		}
		a.pick(t, slices.Index(a.callers, working[k]))
		working = slices.DeleteFunc(working, func(c *caller) bool { return c.now == nil })
	}
}

// expectTree reports an error if a node is not as it must be, or if the leaves do not contain exactly the slots that have been inserted.
func (a *arena) expectTree(t *testing.T) {
	t.Helper()
	var slots []api.Slot
	for level := range tall {
		low := ""
		for id := uint64(level) + 1; id != 0; id = node.Peek(a.l, a.m, id).Right {
			p := node.Peek(a.l, a.m, id)
			if !page.Check(p, api.MinFanout) || p.Level != level || latch.Locked(a.word(id)) {
				t.Fatalf("P13.1, P13.2: node %d has the word %d and the page %#v", id, a.word(id), p)
			}
			if len(p.Slots) > 0 && p.Slots[0].Key < low {
				t.Fatalf("P13.2: node %d begins with %q, but has the key %q", id, low, p.Slots[0].Key)
			}
			if level == 0 {
				slots = append(slots, p.Slots...)
			}
			low = p.High
		}
	}
	want := longer(api.Page{Slots: a.there[1:]}, a.there[0].Key, a.there[0].Ref)
	if !slices.Equal(slots, want) {
		t.Fatalf("P13.1, P13.2: in the leaves are %v, want %v", slots, want)
	}
	for _, s := range slots {
		x := a.look(0, s)
		a.advance(t, x, patience)
		if !x.done {
			t.Fatalf("P13.3: %q is not found", s.Key)
		}
	}
}

// P13.1, P13.2, P13.3: many callers that insert keys into the same leaves in many orders, while others look for the keys that have been
// inserted. All numbers of new nodes are different.
func TestManyCallers(t *testing.T) {
	splits, upper := 0, 0
	for seed := range 60 {
		g := &tree{x: uint64(seed)}
		lists := make([][]string, 2+g.roll(12))
		for _, key := range universe() {
			k := g.roll(len(lists))
			lists[k] = append(lists[k], key)
		}
		for _, list := range lists {
			for i := range list {
				k := i + g.roll(len(list)-i)
				list[i], list[k] = list[k], list[i]
			}
		}
		a := newArena(t, 200, lists)
		a.x = uint64(seed) + 99
		a.work(t, seed%3 == 0)
		a.expectTree(t)
		if len(a.there) != 121 || len(a.refused) != 0 {
			t.Fatalf("P13.1, P13.2: %d keys are there, and %q not", len(a.there), a.refused)
		}
		splits += len(a.numbers)
		for _, id := range a.numbers {
			upper += min(node.Peek(a.l, a.m, id).Level, 1)
		}
	}
	if splits < 2000 || upper < 500 {
		t.Errorf("the test does too little: %d splits, %d of them above the leaves", splits, upper)
	}
}

// P13.2: the same with too few nodes. The keys that are refused are not there, and all other ones are.
func TestManyCallersWithFewNodes(t *testing.T) {
	for seed := range 60 {
		g := &tree{x: uint64(seed)}
		lists := make([][]string, 5)
		for _, key := range g.some(universe(), 90) {
			k := g.roll(len(lists))
			lists[k] = append(lists[k], key)
		}
		a := newArena(t, tall+g.roll(20), lists)
		a.x = uint64(seed) + 99
		a.work(t, seed%2 == 0)
		a.expectTree(t)
		if n := a.m.Peek(a.l.Nodes()).N; n != uint64(a.l.Config().Nodes) || len(a.numbers) != int(n)-tall {
			t.Errorf("P13.2: of %d nodes, %d are in use, and %d have been taken", a.l.Config().Nodes, n, len(a.numbers))
		}
		if len(a.refused) < 5 {
			t.Errorf("the test does too little: %d keys are refused", len(a.refused))
		}
	}
}

// P13.2: two Inserts into two full nodes, in all orders of their first steps: when both have taken a node, they are different ones, and
// when one node is left, one of them gets it.
func TestTwoInserts(t *testing.T) {
	for left := range 3 {
		for order := range 1 << 12 {
			d := start(t, 5, 5+left, 4)
			var list []*Insert
			for i := range uint64(2) {
				h := api.Held{ID: i + 1, Word: 1, Page: newTask(t, 4, 0, 4, 2, 0).h.Page}
				d.put(h)
				list = append(list, NewInsert(d.l, h, "a\x00\x00\x00", 7))
			}
			for i := range 12 {
				list[order>>i&1].Step(d.m)
			}
			numbers := []uint64{}
			for _, x := range list {
				for !x.Step(d.m) {
				}
				if x.Err() == api.OK {
					numbers = append(numbers, x.Right().ID)
				} else if x.Err() != api.ErrFull {
					t.Fatalf("P13.2: %v", x.Err())
				}
			}
			slices.Sort(numbers)
			if !slices.Equal(numbers, []uint64{6, 7}[:left]) {
				t.Fatalf("P13.2: of %d nodes that are left, %v are taken", left, numbers)
			}
		}
	}
}
