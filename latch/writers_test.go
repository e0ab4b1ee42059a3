package latch

import (
	"math"
	"testing"

	"blinktree/api"
	"blinktree/memory"
)

// The cells of these tests: a latch, and the two cells that it protects.
const (
	latchCell = iota
	firstCell
	secondCell
	allCells
)

// writer is a machine that locks the latch, makes its accesses, and releases the latch.
type writer struct {
	acquire  *Acquire
	release  *Release
	work     func(w *writer, m *memory.Memory, step int) bool
	step     int
	word     uint64
	seen     uint64
	finished bool
}

// newWriter returns a writer that works with work, which returns true with its last access.
func newWriter(work func(w *writer, m *memory.Memory, step int) bool) *writer {
	return &writer{acquire: NewAcquire(latchCell), work: work}
}

// holds reports whether the writer has locked the latch.
func (w *writer) holds() bool { return w.word != 0 && !w.finished }

func (w *writer) Step(m *memory.Memory) bool {
	switch {
	case w.finished:
	case w.word == 0:
		if w.acquire.Step(m) {
			w.word = w.acquire.Word()
		}
	case w.release == nil:
		w.step++
		if w.work(w, m, w.step) {
			w.release = NewRelease(latchCell, w.word)
		}
	default:
		w.finished = w.release.Step(m)
	}
	return w.finished
}

// look loads a cell and changes nothing.
func look(w *writer, m *memory.Memory, step int) bool {
	m.Load(firstCell)
	return true
}

// addSteps is the number of steps of add.
const addSteps = 5

// add adds 1 to both cells, first to one and then to the other, and says so in the latch.
func add(w *writer, m *memory.Memory, step int) bool {
	switch step {
	case 1:
		w.seen = m.Load(firstCell).N
	case 2:
		w.word = Begin(w.word)
		m.Store(latchCell, api.Cell{N: w.word})
	case 3:
		m.Store(firstCell, api.Cell{N: w.seen + 1})
	case 4:
		m.Store(secondCell, api.Cell{N: w.seen + 1})
	default:
		w.word = End(w.word)
		m.Store(latchCell, api.Cell{N: w.word})
	}
	return step == addSteps
}

// match is a memory with a latch and machines that use it. start is the first word of the latch.
type match struct {
	m       *memory.Memory
	start   uint64
	writers []*writer
}

// newMatch returns a match with adders writers that change something and lookers that do not.
func newMatch(t *testing.T, start uint64, adders, lookers int) *match {
	t.Helper()
	m, err := memory.New(allCells)
	if err != api.OK {
		t.Fatal(err)
	}
	m.Poke(latchCell, api.Cell{N: start})
	g := &match{m: m, start: start}
	for range adders {
		g.writers = append(g.writers, newWriter(add))
	}
	for range lookers {
		g.writers = append(g.writers, newWriter(look))
	}
	return g
}

// pick makes a step of a writer and returns what of the chapter has been broken by then.
func (g *match) pick(k int) string {
	w := g.writers[k]
	before, finished := g.m.Accesses(), w.finished
	w.Step(g.m)
	made := g.m.Accesses() - before
	if finished && made != 0 || !finished && made != 1 {
		return "P2.4: a step does not make one access"
	}
	holders := 0
	for _, w := range g.writers {
		if w.holds() {
			holders++
		}
	}
	if holders > 1 {
		return "P4.4: two writers have locked the latch"
	}
	if Locked(g.m.Peek(latchCell).N) != (holders == 1) {
		return "P4.2: bit 0 does not say whether the latch is locked"
	}
	return ""
}

// finish picks the writers in the given order, again and again, until all of them must have finished, and returns what
// has been broken.
func (g *match) finish(order []int) string {
	for range 20 * len(g.writers) {
		for _, k := range order {
			if broken := g.pick(k); broken != "" {
				return broken
			}
		}
	}
	added := uint64(0)
	for _, w := range g.writers {
		if !w.finished {
			return "P4.4: a writer never locks the latch"
		}
		if w.step == addSteps {
			added++
		}
	}
	if g.m.Peek(firstCell).N != added || g.m.Peek(secondCell).N != added {
		return "P4.4: a change is lost"
	}
	if g.m.Peek(latchCell) != (api.Cell{N: g.start + 4*added}) {
		return "P4.3: the word that is left is not the last one"
	}
	return ""
}

// turns returns fair orders for n writers: each begins with another one, forwards and backwards, with one pick or with
// several of them in a row, and with a writer that is picked far more often than the others.
func turns(n int) [][]int {
	var all [][]int
	for first := range n {
		for _, row := range []int{1, 2, 3} {
			var forward, backward, often []int
			for k := range n {
				for range row {
					forward = append(forward, (first+k)%n)
					backward = append(backward, (first+n-k)%n)
				}
				often = append(often, first, (first+k)%n, first)
			}
			all = append(all, forward, backward, often)
		}
	}
	return all
}

// prefixes returns all orders of the given number of picks of n writers.
func prefixes(n, picks int) [][]int {
	all := [][]int{nil}
	for range picks {
		var longer [][]int
		for _, p := range all {
			for k := range n {
				longer = append(longer, append(p[:len(p):len(p)], k))
			}
		}
		all = longer
	}
	return all
}

// contest tries writers in all orders of their first picks, followed by fair ones.
func contest(t *testing.T, start uint64, adders, lookers, picks int) {
	t.Helper()
	fair := turns(adders + lookers)
	for i, p := range prefixes(adders+lookers, picks) {
		g := newMatch(t, start, adders, lookers)
		for _, k := range p {
			if broken := g.pick(k); broken != "" {
				t.Fatalf("%s: after some of the picks %v", broken, p)
			}
		}
		order := fair[i%len(fair)]
		if broken := g.finish(order); broken != "" {
			t.Fatalf("%s: picks %v, and then %v again and again", broken, p, order)
		}
	}
}

// P4.4: two writers in all orders of their first 14 picks; alone, each of them takes 4 or 8.
func TestTwoWriters(t *testing.T) {
	contest(t, 0, 2, 0, 14)
	contest(t, 8, 1, 1, 14)
	contest(t, math.MaxUint64-3, 2, 0, 14)
	contest(t, 1<<63, 0, 2, 14)
}

// P4.4: three writers in all orders of their first 9 picks.
func TestThreeWriters(t *testing.T) {
	contest(t, 0, 3, 0, 9)
	contest(t, 4, 1, 2, 9)
	contest(t, 40, 0, 3, 9)
}

// P4.4: more writers, which are picked in many orders, some of them far more often than others.
func TestManyWriters(t *testing.T) {
	for seed := range uint64(500) {
		g := newMatch(t, 4*seed, 5, 4)
		x := seed
		for range seed % 60 {
			x = x*6364136223846793005 + 1442695040888963407
			if broken := g.pick(int(min(x>>33%9, x>>41%9))); broken != "" {
				t.Fatalf("%s: seed %d", broken, seed)
			}
		}
		order := turns(9)[seed%81]
		if broken := g.finish(order); broken != "" {
			t.Fatalf("%s: seed %d, and then %v again and again", broken, seed, order)
		}
	}
}

// P4.4: while the writer that has locked the latch does not release it, nobody else locks it, however often they are picked.
func TestHolderThatStops(t *testing.T) {
	g := newMatch(t, 8, 2, 2)
	g.pick(2)
	g.pick(2)
	for n := range 300 {
		k := []int{0, 1, 3}[n%3]
		if broken := g.pick(k); broken != "" || g.writers[k].word != 0 {
			t.Fatalf("%s: writer %d has the word %d", broken, k, g.writers[k].word)
		}
	}
	if !g.writers[2].holds() || g.m.Peek(latchCell).N != 9 {
		t.Error("P4.4: the latch is not the holder's any more")
	}
	if broken := g.finish(turns(4)[0]); broken != "" {
		t.Error(broken)
	}
}

// reading is what a reader, which locks nothing, sees of the latch and of the two cells.
type reading struct{ before, first, second, after uint64 }

// read makes the step-th access of a reader.
func (r *reading) read(m *memory.Memory, step int) {
	switch step {
	case 0:
		r.before = m.Load(latchCell).N
	case 1:
		r.first = m.Load(firstCell).N
	case 2:
		r.second = m.Load(secondCell).N
	default:
		r.after = m.Load(latchCell).N
	}
}

// P4.1: a reader between the accesses of two writers never takes a mixture for a whole, and does not notice a mere lock.
func TestReader(t *testing.T) {
	const picks, reads = 14, 4
	accepted, acrossLock := 0, 0
	for order := range 1 << picks {
		r, done := readAmong(t, order, picks, reads)
		if !done || Changing(r.before) || !Same(r.before, r.after) {
			continue
		}
		accepted++
		if r.before != r.after {
			acrossLock++
		}
		if r.first != r.second || r.first != Version(r.before) {
			t.Fatalf("P4.1: order %d: a reader accepts %+v", order, r)
		}
	}
	if accepted == 0 || acrossLock == 0 {
		t.Errorf("P4.1: %d readings are accepted, %d of them across a lock", accepted, acrossLock)
	}
}

// readAmong makes the accesses of a reader among those of two writers: bit n of order says whether the n-th pick is the
// reader's. It reports false if the reader does not get as far as its last access.
func readAmong(t *testing.T, order, picks, reads int) (reading, bool) {
	t.Helper()
	g := newMatch(t, 0, 1, 1)
	var r reading
	step := 0
	for n := range picks {
		switch {
		case order>>n&1 == 1 && step < reads:
			r.read(g.m, step)
			step++
		case order>>n&1 == 1:
		// The writer that only looks goes first, so that the latch is locked without a change for a while.
		case g.writers[1].finished:
			g.pick(0)
		default:
			g.pick(1)
		}
	}
	return r, step == reads
}
