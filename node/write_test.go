package node

import (
	"maps"
	"math"
	"slices"
	"testing"

	"blinktree/api"
	"blinktree/latch"
)

// differing returns the cells that are not the same in from, among those of to.
func differing(from, to map[int]api.Cell) map[int]api.Cell {
	cells := maps.Clone(to)
	maps.DeleteFunc(cells, func(i int, c api.Cell) bool {
		old, in := from[i]
		return in && old == c
	})
	return cells
}

// storeOne makes a step of a machine that must not finish, and that must make one of the stores that are left.
func (d *database) storeOne(t *testing.T, promise string, x machine, left map[int]api.Cell) {
	t.Helper()
	d.goOn(t, x, 1)
	for i, c := range left {
		if d.m.Peek(i) == c && d.want[i] != c {
			d.want[i] = c
			delete(left, i)
			d.expect(t, promise)
			return
		}
	}
	t.Fatalf("%s: a step does not store what has to be stored", promise)
}

// expectWrite changes a node that has the page p to the page q, and reports an error if that is not done as P8.3 says.
func (d *database) expectWrite(t *testing.T, id, word uint64, p, q api.Page) {
	t.Helper()
	d.put(id, p)
	d.setLatch(id, word)
	left := differing(cellsOf(d.l, id, p), cellsOf(d.l, id, q))
	// A slot that is new may happen to be in its cell already.
	for i := range left {
		if d.m.Peek(i) == left[i] {
			d.set(i, api.Cell{N: 4711, K: "old"})
		}
	}
	w := NewWrite(d.l, api.Held{ID: id, Word: word, Page: p}, q)
	expectZero(t, w)
	d.want[d.l.Latch(id)] = api.Cell{N: latch.Begin(word)}
	d.goOn(t, w, 1)
	d.expect(t, "P8.3: Begin")
	for len(left) > 0 {
		d.storeOne(t, "P8.3", w, left)
	}
	d.want[d.l.Latch(id)] = api.Cell{N: latch.End(word)}
	d.last(t, w)
	d.expect(t, "P8.3: End")
	expectHeld(t, "P8.3", w.Held(), api.Held{ID: id, Word: latch.End(word), Page: q})
	expectPage(t, "P8.5", Peek(d.l, d.m, id), q)
}

// P8.3: from each page to each other one. Only what is different is stored, and slots that are gone stay in their cells.
func TestWrite(t *testing.T) {
	d := start(t, 5)
	pages := pagesOf(0, 5)
	for i, p := range pages {
		for k, q := range pages {
			d.expectWrite(t, uint64((i+k)%6)+1, words[(i*3+k)%len(words)], p, q)
		}
	}
}

// P8.3: other levels and fanouts.
func TestWriteOtherSizes(t *testing.T) {
	for _, fanout := range []int{api.MinFanout, api.MaxFanout} {
		d := start(t, fanout)
		for _, level := range []int{0, 1, 63, 1 << 40} {
			pages := pagesOf(level, fanout)
			for i, p := range pages {
				d.expectWrite(t, uint64(i%6)+1, words[i%len(words)], p, pages[(i*7+level+3)%len(pages)])
			}
		}
	}
}

// P8.3: a change to the same page stores nothing but the words of the latch, and the version is another one all the same.
func TestWriteTheSame(t *testing.T) {
	d := start(t, 5)
	for i, p := range allPages(5) {
		word := words[i%len(words)]
		d.put(4, p)
		d.setLatch(4, word)
		w := NewWrite(d.l, api.Held{ID: 4, Word: word, Page: p}, p)
		d.run(t, w, 2)
		d.setLatch(4, latch.End(word))
		d.m.Poke(d.l.Latch(4), api.Cell{N: w.Held().Word})
		d.expect(t, "P8.3")
	}
}

// P8.3: many changes of a node, each of them with what the one before has returned: the version counts them.
func TestWriteAgainAndAgain(t *testing.T) {
	d := start(t, 5)
	pages := pagesOf(0, 5)
	for _, first := range []uint64{1, 9, math.MaxUint64 - 42} {
		h := api.Held{ID: 2, Word: first, Page: pages[0]}
		d.put(2, pages[0])
		d.setLatch(2, first)
		for n := range uint64(100) {
			w := NewWrite(d.l, h, pages[n*11%uint64(len(pages))])
			for !w.Step(d.m) {
			}
			h = w.Held()
			if want := first + 4*(n+1); h.Word != want || d.m.Peek(d.l.Latch(2)) != (api.Cell{N: want}) {
				t.Fatalf("P8.3: the word is %d, want %d", h.Word, want)
			}
			expectPage(t, "P8.3", Peek(d.l, d.m, 2), pages[n*11%uint64(len(pages))])
		}
	}
}

// P8.4: all pages into all nodes, whatever was in the cells before.
func TestFresh(t *testing.T) {
	for _, fanout := range []int{api.MinFanout, 5, api.MaxFanout} {
		for i, p := range allPages(fanout) {
			d := start(t, fanout)
			id := uint64(i%6) + 1
			left := cellsOf(d.l, id, p)
			left[d.l.Latch(id)] = api.Cell{N: 1}
			f := NewFresh(d.l, id, p)
			expectZero(t, f)
			for len(left) > 1 {
				d.storeOne(t, "P8.4", f, left)
			}
			for i, c := range left {
				d.want[i] = c
			}
			d.last(t, f)
			d.expect(t, "P8.4")
			expectHeld(t, "P8.4", f.Held(), api.Held{ID: id, Word: latch.Lock(0), Page: p})
			expectPage(t, "P8.5", Peek(d.l, d.m, id), p)
		}
	}
}

// P8.4, P8.3, P8.1: a fresh node can be read and changed like any other, with the word that Fresh has returned.
func TestFreshNodeIsANode(t *testing.T) {
	d := start(t, 5)
	p := api.Page{Level: 1, Slots: slotsOf(3, ""), High: "m", Right: 2}
	f := NewFresh(d.l, 5, p)
	for !f.Step(d.m) {
	}
	r := NewRead(d.l, 5)
	d.run(t, r, 8)
	expectPage(t, "P8.1", r.Page(), p)
	q := api.Page{Level: 1, Slots: slotsOf(5, "b"), Last: true}
	w := NewWrite(d.l, f.Held(), q)
	for !w.Step(d.m) {
	}
	expectHeld(t, "P8.3", w.Held(), api.Held{ID: 5, Word: 5, Page: q})
	o := NewOwn(d.l, 5, w.Held().Word)
	d.run(t, o, 8)
	expectHeld(t, "P8.2", o.Held(), w.Held())
}

// P8.3, P8.4: a page without a high key has an empty K in High, as the chapter says of such a node.
func TestNoHighKey(t *testing.T) {
	d := start(t, 5)
	odd := api.Page{High: "odd", Last: true}
	for _, x := range []machine{
		NewFresh(d.l, 3, odd),
		NewWrite(d.l, api.Held{ID: 4, Word: 1, Page: api.Page{High: "odd", Right: 2}}, odd),
	} {
		for !x.Step(d.m) {
		}
	}
	for _, id := range []uint64{3, 4} {
		if c := d.m.Peek(d.l.High(id)); c != (api.Cell{M: 1}) {
			t.Errorf("P8.3, P8.4: High is %#v", c)
		}
	}
}

// roomy returns a page whose slots have room for more behind them, and all of this room.
func roomy(n int) (api.Page, []api.Slot) {
	room := slotsOf(5, "a")
	return api.Page{Slots: room[:n], Last: true}, room
}

// Rule 3: arguments are neither changed nor kept, and each result is new memory.
func TestWriteKeepsNothing(t *testing.T) {
	for n := range 6 {
		d := start(t, 5)
		h, before := roomy(2)
		p, after := roomy(n)
		f, fresh := roomy(n)
		d.put(1, h)
		d.setLatch(1, 1)
		w, x := NewWrite(d.l, api.Held{ID: 1, Word: 1, Page: h}, p), NewFresh(d.l, 2, f)
		want := slotsOf(5, "a")
		for _, room := range [][]api.Slot{before, after, fresh} {
			if !slices.Equal(room, want) {
				t.Errorf("rule 3: an argument is changed: %#v", room)
			}
			clear(room)
		}
		for !w.Step(d.m) || !x.Step(d.m) {
		}
		for range 3 {
			for _, q := range []api.Page{w.Held().Page, x.Held().Page, Peek(d.l, d.m, 1), Peek(d.l, d.m, 2)} {
				expectPage(t, "rule 3", q, api.Page{Slots: want[:n], Last: true})
				_ = append(q.Slots, api.Slot{Key: "z"})
				clear(q.Slots)
			}
		}
	}
}

// Rule 1: machines that write into something that is not a node finish, and change nothing.
func TestWriteNothing(t *testing.T) {
	d := start(t, 5)
	p, q := api.Page{Slots: slotsOf(2, "a"), Last: true}, api.Page{Slots: slotsOf(5, "b"), High: "m", Right: 2}
	for _, id := range noNodes {
		d.run(t, NewWrite(d.l, api.Held{ID: id, Word: 1, Page: p}, q), 2+3+4)
		d.run(t, NewFresh(d.l, id, q), 9)
	}
	d.expect(t, "rule 1")
}

// Rule 1: machines that write a page with too many slots, or with another level, finish, and change no cell of another node.
func TestWriteTooMuch(t *testing.T) {
	for _, n := range []int{6, 9, 33, 300} {
		d := start(t, 5)
		p, q := api.Page{Slots: slotsOf(n, "a"), Last: true}, api.Page{Level: -1, Slots: slotsOf(n/2, "b"), High: "m", Right: 2}
		for _, x := range []machine{
			NewWrite(d.l, api.Held{ID: 3, Word: 1, Page: q}, p),
			NewWrite(d.l, api.Held{ID: 3, Word: 1, Page: p}, q),
			NewFresh(d.l, 3, p),
		} {
			for steps := 0; !x.Step(d.m); steps++ {
				if steps > n+4 {
					t.Fatal("rule 1: the machine does not finish")
				}
			}
		}
		for i := range d.l.Cells() {
			if i < d.l.Latch(3) || i >= d.l.Latch(4) {
				continue
			}
			d.want[i] = d.m.Peek(i)
		}
		d.expect(t, "rule 1")
	}
}
