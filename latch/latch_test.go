package latch

import (
	"math"
	"testing"

	"blinktree/api"
	"blinktree/memory"
)

// machine is what P2.4 asks of Acquire and Release.
type machine interface{ Step(m *memory.Memory) bool }

// words returns words with all values of the lowest bits and with many versions, the least and the greatest among them.
func words() []uint64 {
	var all []uint64
	for low := range uint64(64) {
		all = append(all, low, math.MaxUint64-low)
	}
	for shift := 6; shift < 64; shift++ {
		for low := range uint64(4) {
			all = append(all, 1<<shift|low, 1<<shift-4|low, 0xa5a5a5a5a5a5a5a5<<shift|low)
		}
	}
	return all
}

// P4.1
func TestParts(t *testing.T) {
	for _, w := range words() {
		if got, want := Locked(w), w%2 == 1; got != want {
			t.Errorf("P4.1: Locked(%#x) is %v", w, got)
		}
		if got, want := Changing(w), w/2%2 == 1; got != want {
			t.Errorf("P4.1: Changing(%#x) is %v", w, got)
		}
		if got, want := Version(w), w/4; got != want {
			t.Errorf("P4.1: Version(%#x) is %#x", w, got)
		}
	}
}

// word returns the word with the given parts; the version is taken modulo 2^62.
func word(version uint64, changing, locked bool) uint64 {
	w := version % (1 << 62) * 4
	if changing {
		w += 2
	}
	if locked {
		w++
	}
	return w
}

// P4.1: each function changes its own part of the word, and no other one.
func TestChanges(t *testing.T) {
	for _, w := range words() {
		version, changing, locked := w/4, w/2%2 == 1, w%2 == 1
		for _, c := range []struct {
			name      string
			got, want uint64
		}{
			{"Lock", Lock(w), word(version, changing, true)},
			{"Unlock", Unlock(w), word(version, changing, false)},
			{"Begin", Begin(w), word(version, true, locked)},
			{"End", End(w), word(version+1, false, locked)},
		} {
			if c.got != c.want {
				t.Errorf("P4.1: %s(%#x) is %#x, want %#x", c.name, w, c.got, c.want)
			}
		}
	}
}

// P4.1: the chapter's example, and the greatest version, written as numbers.
func TestChangesAsNumbers(t *testing.T) {
	for i, c := range []struct{ got, want uint64 }{
		{Lock(8), 9}, {Begin(9), 11}, {End(11), 13}, {Unlock(13), 12}, {Version(12), 3},
		{End(0), 4}, {End(1), 5}, {End(2), 4}, {End(3), 5},
		{End(math.MaxUint64), 1}, {End(math.MaxUint64 - 1), 0}, {End(math.MaxUint64 - 2), 1}, {End(math.MaxUint64 - 3), 0},
		{Version(math.MaxUint64), 1<<62 - 1}, {Version(3), 0}, {Version(4), 1},
	} {
		if c.got != c.want {
			t.Errorf("P4.1: row %d: %d, want %d", i, c.got, c.want)
		}
	}
}

// P4.1
func TestSame(t *testing.T) {
	for _, w := range words() {
		for bit := range 64 {
			other := w ^ 1<<bit
			if got := Same(w, other); got != (bit == 0) {
				t.Errorf("P4.1: Same(%#x, %#x) is %v", w, other, got)
			}
			if Same(w, other^1) != (bit == 0) || !Same(w, w) {
				t.Errorf("P4.1: Same(%#x, %#x)", w, other^1)
			}
		}
		if Same(w, Begin(w)) != Changing(w) || Same(w, End(w)) || !Same(w, Lock(w)) || !Same(w, Unlock(w)) {
			t.Errorf("P4.1: Same of %#x and what a writer makes of it", w)
		}
	}
}

// content is what the cells of a filled memory contain besides their words.
var content = api.Cell{K: "x\x00\xff", M: 7}

// with returns the content of a filled memory's cell with the given word.
func with(n uint64) api.Cell { return api.Cell{N: n, K: content.K, M: content.M} }

// filled returns a memory with three cells; the latches of the tests are in cell 1.
func filled(t *testing.T, n uint64) *memory.Memory {
	t.Helper()
	m, err := memory.New(3)
	if err != api.OK {
		t.Fatal(err)
	}
	m.Poke(0, with(50))
	m.Poke(1, with(n))
	m.Poke(2, with(60))
	return m
}

// expect reports an error if the latch is not want, another cell has changed, or the accesses are not as many.
func expect(t *testing.T, promise string, m *memory.Memory, accesses uint64, want api.Cell) {
	t.Helper()
	for i, c := range []api.Cell{with(50), want, with(60)} {
		if m.Peek(i) != c {
			t.Errorf("%s: cell %d is %#v, want %#v", promise, i, m.Peek(i), c)
		}
	}
	if m.Accesses() != accesses {
		t.Errorf("%s: %d accesses, want %d", promise, m.Accesses(), accesses)
	}
}

// expectFinished reports an error if steps of a machine that has finished make an access, change a cell, or deny it.
func expectFinished(t *testing.T, m *memory.Memory, x machine) {
	t.Helper()
	before := m.Copy()
	for range 3 {
		if !x.Step(m) {
			t.Error("P2.4: a finished machine says that it has not finished")
		}
	}
	for i := range m.Cells() {
		if m.Peek(i) != before.Peek(i) {
			t.Errorf("P2.4: a finished machine changes cell %d", i)
		}
	}
	if m.Accesses() != before.Accesses() {
		t.Error("P2.4: a finished machine makes an access")
	}
}

// wait makes steps of a machine that has to wait: each of them is one access that changes nothing.
func wait(t *testing.T, m *memory.Memory, a *Acquire, steps int) {
	t.Helper()
	for range steps {
		before := m.Copy()
		if a.Step(m) || a.Word() != 0 {
			t.Fatalf("P4.2: finished with %#x", a.Word())
		}
		if m.Accesses() != before.Accesses()+1 {
			t.Errorf("P2.4: %d accesses in one step", m.Accesses()-before.Accesses())
		}
		for i := range m.Cells() {
			if m.Peek(i) != before.Peek(i) {
				t.Errorf("P4.2: cell %d changes to %#v", i, m.Peek(i))
			}
		}
	}
}

// lock makes steps of a machine until it has finished, at most limit, and expects it to have locked the word w.
func lock(t *testing.T, m *memory.Memory, a *Acquire, limit int, w uint64) {
	t.Helper()
	for range limit {
		before := m.Accesses()
		word := m.Peek(1).N
		done := a.Step(m)
		if m.Accesses() != before+1 {
			t.Errorf("P2.4: %d accesses in one step", m.Accesses()-before)
		}
		if !done {
			if a.Word() != 0 || m.Peek(1).N != word {
				t.Errorf("P4.2: before the end: %#x, latch %#x", a.Word(), m.Peek(1).N)
			}
			continue
		}
		if a.Word() != w|1 || word != w || m.Peek(1).N != w|1 {
			t.Errorf("P4.2: Word %#x, latch %#x, want %#x", a.Word(), m.Peek(1).N, w|1)
		}
		expectFinished(t, m, a)
		return
	}
	t.Fatalf("P4.2: %#x is not locked within %d steps", w, limit)
}

// P4.2: a latch that is not locked, whatever its other bits are.
func TestAcquire(t *testing.T) {
	for _, w := range words() {
		if w%2 == 1 {
			continue
		}
		m := filled(t, w)
		a := NewAcquire(1)
		if a.Word() != 0 || m.Accesses() != 0 {
			t.Error("P2.4: before the first step")
		}
		lock(t, m, a, 2, w)
		expect(t, "P4.2", m, 2, with(w|1))
	}
}

// P4.2: Word stays the word in the latch after the Swap, whatever the writer stores afterwards.
func TestWordStays(t *testing.T) {
	m := filled(t, 8)
	a := NewAcquire(1)
	lock(t, m, a, 2, 8)
	m.Poke(1, with(13))
	expectFinished(t, m, a)
	if a.Word() != 9 {
		t.Errorf("P4.2: Word is %d", a.Word())
	}
}

// P4.2: a locked latch, also while its holder changes it; it is locked as soon as the holder has released it.
func TestAcquireWaits(t *testing.T) {
	for _, w := range words() {
		if w%2 == 0 {
			continue
		}
		m := filled(t, w)
		a := NewAcquire(1)
		wait(t, m, a, 3)
		for _, held := range []uint64{Begin(w), End(w), w, End(End(w))} {
			m.Poke(1, with(held))
			wait(t, m, a, 2)
		}
		m.Poke(1, with(Unlock(End(w))))
		lock(t, m, a, 2, Unlock(End(w)))
		expect(t, "P4.2", m, 13, with(Lock(End(w))))
	}
}

// P4.2: the latch is taken by somebody else behind the first access; bit 0 is set by a Swap, so the lock is not taken over.
func TestAcquireIsOvertaken(t *testing.T) {
	m := filled(t, 8)
	a, b := NewAcquire(1), NewAcquire(1)
	wait(t, m, a, 1)
	wait(t, m, b, 1)
	lock(t, m, b, 1, 8)
	wait(t, m, a, 20)
	expect(t, "P4.2", m, 23, with(9))
	m.Poke(1, with(12))
	lock(t, m, a, 2, 12)
}

// P4.2: the latch is locked, changed and released behind the first access: the word that is locked is the present one.
func TestAcquireOfAChangedWord(t *testing.T) {
	for _, now := range []uint64{12, 4, 0, 10, 1<<63 + 8} {
		m := filled(t, 8)
		a := NewAcquire(1)
		wait(t, m, a, 1)
		m.Poke(1, with(now))
		lock(t, m, a, 3, now)
		expect(t, "P4.2", m, m.Accesses(), with(now|1))
	}
}

// P4.2: a latch that was released with the word that it had before is locked all the same.
func TestAcquireOfTheSameWord(t *testing.T) {
	m := filled(t, 8)
	a, b := NewAcquire(1), NewAcquire(1)
	wait(t, m, a, 1)
	lock(t, m, b, 2, 8)
	if !NewRelease(1, b.Word()).Step(m) {
		t.Error("P4.3: not finished")
	}
	lock(t, m, a, 2, 8)
}

// P4.2, P4.3: a cell that does not exist is never locked, and nothing is stored in it.
func TestOutside(t *testing.T) {
	for _, i := range []int{-1, -3, 3, 4, 1 << 32, 1<<32 + 1, math.MaxInt, math.MinInt} {
		m := filled(t, 8)
		a := NewAcquire(i)
		wait(t, m, a, 50)
		r := NewRelease(i, 13)
		if !r.Step(m) {
			t.Errorf("P4.3: the release of cell %d does not finish", i)
		}
		expectFinished(t, m, r)
		expect(t, "P4.2", m, 51, with(8))
	}
}

// P4.2, P4.3: the first and the last cell, and two latches at the same time.
func TestCells(t *testing.T) {
	m, _ := memory.New(3)
	var all []*Acquire
	for i := range 3 {
		m.Poke(i, api.Cell{N: uint64(i) * 4})
		all = append(all, NewAcquire(i))
	}
	for range 2 {
		for _, a := range all {
			a.Step(m)
		}
	}
	for i, a := range all {
		want := uint64(i)*4 + 1
		if a.Word() != want || m.Peek(i) != (api.Cell{N: want}) {
			t.Errorf("P4.2: cell %d: word %d, %#v", i, a.Word(), m.Peek(i))
		}
		NewRelease(i, want).Step(m)
		if m.Peek(i) != (api.Cell{N: want - 1}) || i < 2 && m.Peek(i+1).N != want+4 {
			t.Errorf("P4.3: cell %d: %#v", i, m.Peek(i))
		}
	}
}

// P4.3: whatever the word is; only bit 0 of it is cleared.
func TestRelease(t *testing.T) {
	for _, w := range words() {
		m, _ := memory.New(3)
		m.Poke(1, api.Cell{N: Lock(w)})
		r := NewRelease(1, w)
		if m.Accesses() != 0 || m.Peek(1).N != Lock(w) {
			t.Error("P2.4: before the first step")
		}
		if !r.Step(m) || m.Accesses() != 1 {
			t.Errorf("P4.3: the release of %#x takes more than one step or access", w)
		}
		if m.Peek(0) != (api.Cell{}) || m.Peek(1) != (api.Cell{N: w &^ 1}) || m.Peek(2) != (api.Cell{}) {
			t.Errorf("P4.3: the release of %#x stores %#v", w, m.Peek(1))
		}
		expectFinished(t, m, r)
	}
}

// P4.3: the word is the one that the machine was made with, and not the one in the latch.
func TestReleaseOfAnotherWord(t *testing.T) {
	m, _ := memory.New(3)
	m.Poke(1, api.Cell{N: 11})
	first, second := NewRelease(1, 13), NewRelease(1, 1<<40+3)
	first.Step(m)
	if m.Peek(1) != (api.Cell{N: 12}) {
		t.Errorf("P4.3: %#v", m.Peek(1))
	}
	second.Step(m)
	expectFinished(t, m, first)
	if m.Peek(1) != (api.Cell{N: 1<<40 + 2}) || m.Accesses() != 2 {
		t.Errorf("P4.3: %#v, %d accesses", m.Peek(1), m.Accesses())
	}
}
