package alloc

import (
	"math"
	"testing"

	"blinktree/api"
	"blinktree/memory"
)

// machine is what P2.4 asks of Take and Raise.
type machine interface{ Step(m *memory.Memory) bool }

// values returns values of counters, the least and the greatest among them.
func values() []uint64 {
	all := []uint64{0, 1, 2, 3, 4, 5, 7, 100}
	for _, shift := range []int{16, 31, 32, 40, 62, 63} {
		all = append(all, 1<<shift-1, 1<<shift, 1<<shift+1)
	}
	return append(all, math.MaxUint64-2, math.MaxUint64-1, math.MaxUint64)
}

// with returns what a cell of a filled memory contains: a counter, and parts that are not the counter.
func with(n uint64) api.Cell { return api.Cell{N: n, K: "x\x00\xff", M: 7} }

// The cells of a filled memory: a counter between two others.
const (
	cellBefore = iota
	counterCell
	cellBehind
	allCells
)

// filled returns a memory with the value n in the counter of the tests.
func filled(t *testing.T, n uint64) *memory.Memory {
	t.Helper()
	m, err := memory.New(allCells)
	if err != api.OK {
		t.Fatal(err)
	}
	m.Poke(cellBefore, with(50))
	m.Poke(counterCell, with(n))
	m.Poke(cellBehind, with(60))
	return m
}

// expect reports an error if the counter is not want, something else has changed, or the accesses are not as many.
func expect(t *testing.T, promise string, m *memory.Memory, accesses, want uint64) {
	t.Helper()
	for i, n := range []uint64{50, want, 60} {
		if m.Peek(i) != with(n) {
			t.Errorf("%s: cell %d is %#v, want %#v", promise, i, m.Peek(i), with(n))
		}
	}
	if m.Accesses() != accesses {
		t.Errorf("%s: %d accesses, want %d", promise, m.Accesses(), accesses)
	}
}

// expectNumber reports an error if the machine's result is not the number, or not that there is none if it is 0.
func expectNumber(t *testing.T, x *Take, want uint64) {
	t.Helper()
	if n, ok := x.Number(); n != want || ok != (want != 0) {
		t.Errorf("P5.1: Number is %d, %v, want %d", n, ok, want)
	}
}

// expectRaised reports an error if the machine's result is not the given one.
func expectRaised(t *testing.T, x *Raise, want bool) {
	t.Helper()
	if x.Raised() != want {
		t.Errorf("P5.2: Raised is %v", x.Raised())
	}
}

// goOn makes steps of a machine that must not finish: each of them is one access that leaves the memory as it is.
func goOn(t *testing.T, m *memory.Memory, x machine, steps int) {
	t.Helper()
	for range steps {
		before := m.Copy()
		if x.Step(m) {
			t.Fatal("P2.4: finished too early")
		}
		if m.Accesses() != before.Accesses()+1 {
			t.Errorf("P2.4: %d accesses in one step", m.Accesses()-before.Accesses())
		}
		expectUnchanged(t, m, before)
	}
}

// expectUnchanged reports an error if a cell is not what it was before.
func expectUnchanged(t *testing.T, m, before *memory.Memory) {
	t.Helper()
	for i := range m.Cells() {
		if m.Peek(i) != before.Peek(i) {
			t.Errorf("P2.4: cell %d changes from %#v to %#v", i, before.Peek(i), m.Peek(i))
		}
	}
}

// last makes the last step of a machine, which is one access, and then three more, which are none and change nothing.
func last(t *testing.T, m *memory.Memory, x machine) {
	t.Helper()
	accesses := m.Accesses()
	if !x.Step(m) {
		t.Fatal("P2.4: not finished")
	}
	if m.Accesses() != accesses+1 {
		t.Errorf("P2.4: %d accesses in the last step", m.Accesses()-accesses)
	}
	before := m.Copy()
	for range 3 {
		if !x.Step(m) {
			t.Error("P2.4: a finished machine says that it has not finished")
		}
	}
	expectUnchanged(t, m, before)
	if m.Accesses() != before.Accesses() {
		t.Error("P2.4: a finished machine makes an access")
	}
}

// P5.1: the chapter's example.
func TestExample(t *testing.T) {
	m := filled(t, 4)
	x, y := NewTake(counterCell, 5), NewTake(counterCell, 5)
	goOn(t, m, x, 1)
	last(t, m, x)
	last(t, m, y)
	expectNumber(t, x, 5)
	expectNumber(t, y, 0)
	expect(t, "P5.1", m, 3, 5)
}

// P5.1: every value with every limit: below it, at it, and above it.
func TestTake(t *testing.T) {
	for _, value := range values() {
		for _, limit := range values() {
			m := filled(t, value)
			x := NewTake(counterCell, limit)
			expectNumber(t, x, 0)
			expect(t, "P2.4", m, 0, value)
			if value >= limit {
				last(t, m, x)
				expectNumber(t, x, 0)
				expect(t, "P5.1", m, 1, value)
				continue
			}
			goOn(t, m, x, 1)
			expectNumber(t, x, 0)
			last(t, m, x)
			expectNumber(t, x, value+1)
			expect(t, "P5.1", m, 2, value+1)
		}
	}
}

// P5.1: the counter is changed between the two accesses: it is increased from the value that it has by then.
func TestTakeIsOvertaken(t *testing.T) {
	for _, now := range []uint64{0, 3, 5, 6, 1 << 40, math.MaxUint64 - 1} {
		m := filled(t, 4)
		x := NewTake(counterCell, math.MaxUint64)
		goOn(t, m, x, 1)
		m.Poke(counterCell, with(now))
		goOn(t, m, x, 2)
		expectNumber(t, x, 0)
		last(t, m, x)
		expectNumber(t, x, now+1)
		expect(t, "P5.1", m, 4, now+1)
	}
}

// P5.1: the last numbers are taken between the two accesses: none is left, although there was one at the first access.
func TestTakeOfTheLastNumber(t *testing.T) {
	for _, now := range []uint64{5, 6, math.MaxUint64} {
		m := filled(t, 4)
		x := NewTake(counterCell, 5)
		goOn(t, m, x, 1)
		m.Poke(counterCell, with(now))
		goOn(t, m, x, 1)
		last(t, m, x)
		expectNumber(t, x, 0)
		expect(t, "P5.1", m, 3, now)
	}
}

// P5.1: overtaken again and again; the machine neither gives up nor takes a number twice.
func TestTakeIsOvertakenOften(t *testing.T) {
	m := filled(t, 0)
	x := NewTake(counterCell, 1000)
	for n := uint64(1); n <= 300; n++ {
		goOn(t, m, x, 1)
		m.Poke(counterCell, with(n))
		goOn(t, m, x, 1)
	}
	goOn(t, m, x, 1)
	last(t, m, x)
	expectNumber(t, x, 301)
	expect(t, "P5.1", m, 602, 301)
}

// P5.1: the number stays the one that was taken, whatever happens to the counter afterwards.
func TestNumberStays(t *testing.T) {
	m := filled(t, 4)
	x, y := NewTake(counterCell, 5), NewTake(counterCell, 5)
	goOn(t, m, x, 1)
	last(t, m, x)
	last(t, m, y)
	m.Poke(counterCell, with(0))
	for _, k := range []machine{x, y} {
		if !k.Step(m) {
			t.Error("P2.4: a finished machine says that it has not finished")
		}
	}
	expectNumber(t, x, 5)
	expectNumber(t, y, 0)
	expect(t, "P5.1", m, 3, 0)
}

// P5.2: every value with every number: below it, at it, and above it.
func TestRaise(t *testing.T) {
	for _, value := range values() {
		for _, to := range values() {
			m := filled(t, value)
			x := NewRaise(counterCell, to)
			expectRaised(t, x, false)
			expect(t, "P2.4", m, 0, value)
			if value >= to {
				last(t, m, x)
				expectRaised(t, x, false)
				expect(t, "P5.2", m, 1, value)
				continue
			}
			goOn(t, m, x, 1)
			expectRaised(t, x, false)
			last(t, m, x)
			expectRaised(t, x, true)
			expect(t, "P5.2", m, 2, to)
		}
	}
}

// P5.2: the counter is changed between the two accesses, but is not large enough yet.
func TestRaiseIsOvertaken(t *testing.T) {
	for _, now := range []uint64{0, 3, 5, 8} {
		m := filled(t, 4)
		x := NewRaise(counterCell, 9)
		goOn(t, m, x, 1)
		m.Poke(counterCell, with(now))
		goOn(t, m, x, 2)
		expectRaised(t, x, false)
		last(t, m, x)
		expectRaised(t, x, true)
		expect(t, "P5.2", m, 4, 9)
	}
}

// P5.2: somebody else makes the counter large enough between the two accesses: it is not decreased.
func TestRaiseThatIsNotNeeded(t *testing.T) {
	for _, now := range []uint64{9, 10, 1 << 40, math.MaxUint64} {
		m := filled(t, 4)
		x := NewRaise(counterCell, 9)
		goOn(t, m, x, 1)
		m.Poke(counterCell, with(now))
		goOn(t, m, x, 1)
		last(t, m, x)
		expectRaised(t, x, false)
		expect(t, "P5.2", m, 3, now)
	}
}

// P5.2: overtaken again and again by smaller numbers.
func TestRaiseIsOvertakenOften(t *testing.T) {
	m := filled(t, 0)
	x := NewRaise(counterCell, 1000)
	for n := uint64(1); n <= 300; n++ {
		goOn(t, m, x, 1)
		m.Poke(counterCell, with(n))
		goOn(t, m, x, 1)
	}
	goOn(t, m, x, 1)
	last(t, m, x)
	expectRaised(t, x, true)
	expect(t, "P5.2", m, 602, 1000)
}

// P5.2: the result stays, whatever happens to the counter afterwards.
func TestRaisedStays(t *testing.T) {
	m := filled(t, 4)
	x, y := NewRaise(counterCell, 9), NewRaise(counterCell, 9)
	goOn(t, m, x, 1)
	last(t, m, x)
	last(t, m, y)
	m.Poke(counterCell, with(0))
	for _, k := range []machine{x, y} {
		if !k.Step(m) {
			t.Error("P2.4: a finished machine says that it has not finished")
		}
	}
	expectRaised(t, x, true)
	expectRaised(t, y, false)
	expect(t, "P5.2", m, 3, 0)
}

// P5.1, P5.2: a counter that had another value in between has the value that was loaded again, so the Swap may replace it.
func TestTheSameValueAgain(t *testing.T) {
	m := filled(t, 4)
	x, y := NewTake(counterCell, 9), NewRaise(counterCell, 5)
	goOn(t, m, x, 1)
	m.Poke(counterCell, with(8))
	m.Poke(counterCell, with(4))
	last(t, m, x)
	expectNumber(t, x, 5)
	m.Poke(counterCell, with(2))
	goOn(t, m, y, 1)
	m.Poke(counterCell, with(7))
	m.Poke(counterCell, with(2))
	last(t, m, y)
	expectRaised(t, y, true)
	expect(t, "P5.2", m, 4, 5)
}

// P5.1, P5.2: the counters of the first and of the last cell are counters of their own.
func TestCells(t *testing.T) {
	m, _ := memory.New(allCells)
	var takes []*Take
	for i := range allCells {
		m.Poke(i, api.Cell{N: uint64(i) * 10})
		takes = append(takes, NewTake(i, uint64(i)*10+1))
	}
	for _, x := range takes {
		goOn(t, m, x, 1)
	}
	for i, x := range takes {
		last(t, m, x)
		expectNumber(t, x, uint64(i)*10+1)
		y := NewRaise(i, uint64(i)*10+5)
		goOn(t, m, y, 1)
		last(t, m, y)
		if m.Peek(i) != (api.Cell{N: uint64(i)*10 + 5}) || i < cellBehind && m.Peek(i+1).N != uint64(i)*10+10 {
			t.Errorf("P5.2: behind cell %d: %#v, %#v", i, m.Peek(i), m.Peek(i+1))
		}
	}
}

// P5.1, P5.2: a cell that does not exist is loaded as 0, and no Swap of it succeeds, so nothing is ever taken from it.
func TestOutside(t *testing.T) {
	for _, i := range []int{-1, -3, allCells, allCells + 1, 1 << 32, 1<<32 + counterCell, math.MaxInt, math.MinInt} {
		m := filled(t, 4)
		x, y := NewTake(i, 1), NewRaise(i, 1)
		goOn(t, m, x, 50)
		goOn(t, m, y, 50)
		expectNumber(t, x, 0)
		expectRaised(t, y, false)
		x, y = NewTake(i, 0), NewRaise(i, 0)
		last(t, m, x)
		last(t, m, y)
		expectNumber(t, x, 0)
		expectRaised(t, y, false)
		expect(t, "P5.1", m, 102, 4)
	}
}
