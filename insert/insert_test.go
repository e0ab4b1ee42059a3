package insert

import (
	"math"
	"slices"
	"testing"

	"blinktree/alloc"
	"blinktree/api"
	"blinktree/layout"
	"blinktree/leaflock"
	"blinktree/memory"
)

// longer returns the slots of a page and a further one, in the order of their keys.
func longer(p api.Page, key string, ref uint64) []api.Slot {
	list := append(slices.Clone(p.Slots), api.Slot{Key: key, Ref: ref})
	slices.SortFunc(list, func(s, u api.Slot) int {
		if s.Key < u.Key {
			return -1
		}
		return 1
	})
	return list
}

// between returns the separator of two neighbours on a level, by what the chapters 1 and 7 say.
func between(level int, a, b string) string {
	if level > 0 {
		return b
	}
	n := 0
	for b[:n] <= a {
		n++
	}
	return b[:n]
}

// halves returns the pages into which a page with too many slots is split, and their separator.
func halves(p api.Page, slots []api.Slot, right uint64) (api.Page, api.Page, string) {
	n := (len(slots) + 1) / 2
	separator := between(p.Level, slots[n-1].Key, slots[n].Key)
	r := p
	r.Slots = slots[n:]
	return api.Page{Level: p.Level, Slots: slots[:n], High: separator, Right: right}, r, separator
}

// next returns the word of a locked latch after a change.
func next(word uint64) uint64 { return word + 4 }

// P13.1, P13.2: the example, in the memory of an empty database, with its keys in any order.
func TestFifthKey(t *testing.T) {
	for _, order := range [][]string{{"a", "b", "c", "d", "e"}, {"e", "d", "c", "b", "a"}, {"c", "a", "e", "b", "d"}} {
		l, m, _ := layout.Start(api.Config{Threads: 1, Snapshots: 1, Nodes: 2, Chains: 9, Records: 9, Fanout: 4, Clock: 9})
		d := &database{l: l, m: m}
		k := leaflock.NewLock(l, "", 0)
		for !k.Step(m) {
		}
		h := k.Held()
		var slots []api.Slot
		for n, key := range order {
			x := NewInsert(l, h, key, uint64(n)+7)
			d.run(t, x)
			slots = longer(api.Page{Slots: slots}, key, uint64(n)+7)
			want := api.Held{ID: 1, Word: 4*uint64(n+1) + 1, Page: api.Page{Slots: slots, Last: true}}
			if n < 4 {
				d.expectNode(t, "P13.1", x.Left(), want)
				h = x.Left()
				continue
			}
			want.Page = api.Page{Slots: slots[:3], High: "d", Right: 2}
			d.expectNode(t, "P13.2: three keys in the left node", x.Left(), want)
			d.expectNode(t, "P13.2: two keys in the right one", x.Right(), api.Held{ID: 2, Word: 1, Page: api.Page{Slots: slots[3:], Last: true}})
			if x.Separator() != "d" || x.Err() != api.OK {
				t.Errorf("P13.2: the separator is %q, and the error %v", x.Separator(), x.Err())
			}
		}
	}
}

// P13.1: pages that have room for the slot, the empty page and those that are full afterwards included.
func TestRoom(t *testing.T) {
	tasks(t, 1, api.MaxFanout, func(t *testing.T, k *task) {
		d, before, x := k.d, k.d.cells(), k.begin()
		d.run(t, x)
		if x.Err() != api.OK || x.Separator() != "" || !same(x.Right(), api.Held{}) {
			t.Fatalf("P13.1: %v: the results are %v, %q, %#v", k, x.Err(), x.Separator(), x.Right())
		}
		want := k.h
		want.Word, want.Page.Slots = next(k.h.Word), longer(k.h.Page, k.key, k.ref)
		d.expectNode(t, "P13.1: "+k.String(), x.Left(), want)
		d.expectCells(t, "P13.1: the other cells", before, k.h.ID)
	})
}

// P13.1: no new node is needed, so that it does not matter whether one is left.
func TestRoomWithoutNodes(t *testing.T) {
	for _, used := range []uint64{6, 7, math.MaxUint64} {
		k := newTask(t, 4, 0, 3, 1, 0)
		k.d.m.Poke(k.d.l.Nodes(), api.Cell{N: used})
		before, x := k.d.cells(), k.begin()
		k.d.run(t, x)
		if x.Err() != api.OK || len(x.Left().Page.Slots) != 4 {
			t.Errorf("P13.1: %v, %#v", x.Err(), x.Left())
		}
		k.d.expectCells(t, "P13.1: the other cells", before, k.h.ID)
	}
}

// expectSplit reports an error if an Insert has not split a page between the node of its task and a new one with this number.
func (k *task) expectSplit(t *testing.T, x *Insert, right uint64) {
	t.Helper()
	l, r, separator := halves(k.h.Page, longer(k.h.Page, k.key, k.ref), right)
	if x.Err() != api.OK || x.Separator() != separator {
		t.Fatalf("P13.2: %v: the error is %v, and the separator is %q, want %q", k, x.Err(), x.Separator(), separator)
	}
	k.d.expectNode(t, "P13.2: left: "+k.String(), x.Left(), api.Held{ID: k.h.ID, Word: next(k.h.Word), Page: l})
	k.d.expectNode(t, "P13.2: right: "+k.String(), x.Right(), api.Held{ID: right, Word: 1, Page: r})
}

// P13.2: pages that are full. What is in the cells of the new node before does not matter, not even a word in its latch.
func TestSplit(t *testing.T) {
	tasks(t, 0, 0, func(t *testing.T, k *task) {
		d, right := k.d, uint64(k.used)+1
		d.m.Poke(d.l.Latch(right), api.Cell{N: words[k.used%len(words)]})
		before, x := d.cells(), k.begin()
		d.run(t, x)
		k.expectSplit(t, x, right)
		d.expectCount(t, "P13.2", before, right)
		d.expectCells(t, "P13.2: the other cells", before, k.h.ID, right)
	})
}

// P13.2: the right page is in the new node before the old one changes, and does not change any more after that. The old one is changing
// while its cells are written.
func TestRightPageIsFirst(t *testing.T) {
	tasks(t, 0, 0, func(t *testing.T, k *task) {
		d, right := k.d, uint64(k.used)+1
		_, r, _ := halves(k.h.Page, longer(k.h.Page, k.key, k.ref), right)
		before, x := d.cells(), k.begin()
		for d.word(k.h.ID) == k.h.Word {
			d.expectCells(t, "P13.2: the old node is changed last", before, right, 0)
			if d.step(t, x) {
				t.Fatal("P13.2: the old node has not been changed")
			}
			before[d.l.Nodes()] = d.m.Peek(d.l.Nodes())
		}
		d.expectNode(t, "P13.2: the right page is written first", d.held(right), api.Held{ID: right, Word: 1, Page: r})
		before = d.cells()
		for !d.step(t, x) {
			if d.word(k.h.ID) != k.h.Word|2 {
				t.Fatalf("P13.2: while the old node is written, its word is %d", d.word(k.h.ID))
			}
			d.expectCells(t, "P13.2: only the left page is left to write", before, k.h.ID)
		}
		k.expectSplit(t, x, right)
	})
}

// P13.2: if no node is left, nothing is changed. The caller still has the node locked.
func TestFull(t *testing.T) {
	tasks(t, 0, 0, func(t *testing.T, k *task) {
		d := k.d
		limit := uint64(d.l.Config().Nodes)
		for _, used := range []uint64{limit, limit + 1, 1 << 63, math.MaxUint64} {
			d.m.Poke(d.l.Nodes(), api.Cell{N: used})
			before, x := d.cells(), k.begin()
			d.run(t, x)
			if x.Err() != api.ErrFull || x.Separator() != "" || !same(x.Right(), api.Held{}) {
				t.Fatalf("P13.2: %v: no node is left, but the results are %v, %q, %#v", k, x.Err(), x.Separator(), x.Right())
			}
			d.expectNode(t, "P13.2: no node is left: "+k.String(), x.Left(), k.h)
			d.expectCells(t, "P13.2: no node is left, nothing is changed", before)
		}
	})
}

// P13.2: the limit is the number of nodes of the configuration, the least and the greatest one included.
func TestLimit(t *testing.T) {
	for _, nodes := range []int{3, 4, 100, api.MaxNodes} {
		k := newTask(t, 4, 0, 4, 2, 0)
		k.d = start(t, nodes-1, nodes, 4)
		k.d.put(k.h)
		x := k.begin()
		k.d.run(t, x)
		if nodes > 3 {
			k.expectSplit(t, x, uint64(nodes))
		}
		if n := k.d.m.Peek(k.d.l.Nodes()).N; x.Err() != api.OK || n != uint64(nodes) {
			t.Errorf("P13.2: of %d nodes, %d are in use", nodes, n)
		}
		again := k.begin()
		k.d.run(t, again)
		if again.Err() != api.ErrFull {
			t.Errorf("P13.2: all %d nodes are in use, but the error is %v", nodes, again.Err())
		}
	}
}

// P13.2: whatever number of steps an Insert has made when somebody else takes a node, it gets another one, or none if that was the last
// one.
func TestOthersTakeNodes(t *testing.T) {
	refused := 0
	for seed := range 40 {
		for steps := range 30 {
			k := newTask(t, 4, 0, 4, seed%5, seed)
			d, x := k.d, k.begin()
			for range steps {
				x.Step(d.m)
			}
			other := alloc.NewTake(d.l.Nodes(), uint64(d.l.Config().Nodes))
			for !other.Step(d.m) {
			}
			number, _ := other.Number()
			for !x.Step(d.m) {
			}
			right := uint64(2*k.used+3) - number
			if x.Err() == api.ErrFull && d.l.Config().Nodes == k.used+1 && number != 0 {
				d.expectNode(t, "P13.2: somebody else has the last node", x.Left(), k.h)
				refused++
				continue
			}
			if number == 0 {
				right = uint64(k.used) + 1
			}
			k.expectSplit(t, x, right)
		}
	}
	if refused < 40 {
		t.Errorf("the test does too little: %d Inserts are refused", refused)
	}
}

// Rule 3: the slots of the caller's page are neither changed nor kept, and each result is new memory.
func TestMemoryIsNew(t *testing.T) {
	for _, n := range []int{3, 4} {
		for _, used := range []uint64{5, 6} {
			k := newTask(t, 4, 0, n, 2, 0)
			d := k.d
			d.m.Poke(d.l.Nodes(), api.Cell{N: used})
			given := slices.Clone(k.h.Page.Slots)
			spare := append(make([]api.Slot, 0, 99), given...)
			k.h.Page.Slots = spare
			x := k.begin()
			clear(spare[:cap(spare)])
			d.run(t, x)
			if !slices.Equal(spare[:cap(spare)], make([]api.Slot, 99)) {
				t.Error("rule 3: the slots of the caller are changed")
			}
			k.h.Page.Slots = given
			for range 3 {
				left, right := x.Left(), x.Right()
				d.expectNode(t, "rule 3", left, d.held(k.h.ID))
				if right.ID != 0 {
					d.expectNode(t, "rule 3", right, d.held(right.ID))
				}
				for _, p := range []api.Page{left.Page, right.Page} {
					_ = append(p.Slots, api.Slot{Key: "z"})
					clear(p.Slots)
				}
			}
		}
	}
}

// finishes reports an error if an Insert does not finish, or makes a step that is not one access.
func finishes(t *testing.T, m *memory.Memory, x *Insert) {
	t.Helper()
	for steps := 0; steps < 3000; steps++ {
		accesses := m.Accesses()
		finished := x.Step(m)
		if m.Accesses() != accesses+1 {
			t.Fatal("P2.4: a step does not make one access")
		}
		if finished {
			x.Err()
			x.Left()
			x.Right()
			x.Separator()
			return
		}
	}
	t.Fatal("rule 1: an Insert does not finish")
}

// Rule 1: for nodes that do not exist, pages that are not valid, keys that are not covered or already there, and any references, an
// Insert finishes.
func TestInvalid(t *testing.T) {
	all := universe()
	for _, id := range []uint64{0, 1, 3, 9, 10, 1 << 32, 1<<63 + 3, math.MaxUint64} {
		for _, n := range []int{0, 1, 3, 4, 5, 8, 9, 12, 40, 120} {
			for _, level := range []int{0, 1, -1, math.MaxInt, math.MinInt} {
				for seed := range 12 {
					p := api.Page{Level: level, High: all[seed*9], Last: seed%2 == 0, Right: id}
					for i := range n {
						p.Slots = append(p.Slots, api.Slot{Key: all[(i*(seed%4+1)+seed)%121], Ref: uint64(i)})
					}
					for _, key := range []string{"", all[seed*10], "\xff\xff\xff\xff\xff"} {
						d := start(t, 5, 9, 4)
						finishes(t, d.m, NewInsert(d.l, api.Held{ID: id, Word: uint64(seed), Page: p}, key, uint64(seed)))
					}
				}
			}
		}
	}
}
