package memory

import (
	"math"
	"strconv"
	"strings"
	"testing"

	"blinktree/api"
)

// full is a cell of which no part is zero.
var full = api.Cell{N: 5, K: "x\x00\xff", M: 7}

// filled returns a memory whose cell i has the content content(i), and that has made no access.
func filled(t *testing.T, cells int) *Memory {
	t.Helper()
	m, err := New(cells)
	if err != api.OK || m == nil {
		t.Fatalf("P2.1: New(%d): %v, %v", cells, m, err)
	}
	for i := range cells {
		m.Poke(i, content(i))
	}
	return m
}

// content is the content of cell i of a memory made by filled.
func content(i int) api.Cell {
	return api.Cell{N: uint64(i) + 1, K: "c" + strconv.Itoa(i), M: math.MaxUint64 - uint64(i)}
}

// wrong returns numbers that no cell of a memory of the given size has.
func wrong(cells int) []int {
	return []int{-1, -2, -cells, cells, cells + 1, 2 * cells, MaxCells, 1 << 31, 1 << 32, math.MaxInt, math.MinInt}
}

// expect reports an error if m does not have the given contents, number of cells and number of accesses.
func expect(t *testing.T, promise string, m *Memory, accesses uint64, want ...api.Cell) {
	t.Helper()
	if m.Cells() != len(want) {
		t.Errorf("%s: %d cells, want %d", promise, m.Cells(), len(want))
	}
	for i, c := range want {
		if got := m.Peek(i); got != c {
			t.Errorf("%s: cell %d is %#v, want %#v", promise, i, got, c)
		}
	}
	if m.Accesses() != accesses {
		t.Errorf("%s: %d accesses, want %d", promise, m.Accesses(), accesses)
	}
}

// P2.1
func TestNewIsZero(t *testing.T) {
	if MaxCells != 1048576 {
		t.Errorf("P2.1: MaxCells is %d", MaxCells)
	}
	for _, n := range []int{1, 2, 3, 1000, MaxCells - 1, MaxCells} {
		m, err := New(n)
		if err != api.OK || m == nil {
			t.Fatalf("P2.1: New(%d): %v", n, err)
		}
		if m.Cells() != n || m.Accesses() != 0 {
			t.Errorf("P2.1: New(%d) has %d cells and %d accesses", n, m.Cells(), m.Accesses())
		}
		for i := range n {
			if m.Peek(i) != (api.Cell{}) {
				t.Fatalf("P2.1: cell %d of %d is %v", i, n, m.Peek(i))
			}
		}
	}
}

// P2.1: the last cell of a memory of the greatest size is a cell, and the one behind it is not.
func TestNewGreatest(t *testing.T) {
	m, err := New(MaxCells)
	if err != api.OK {
		t.Fatalf("P2.1: New(MaxCells): %v", err)
	}
	m.Store(MaxCells-1, full)
	m.Store(MaxCells, full)
	if m.Load(MaxCells-1) != full || m.Load(MaxCells) != (api.Cell{}) || m.Load(0) != (api.Cell{}) {
		t.Error("P2.1: the last cell")
	}
}

// P2.1
func TestNewInvalid(t *testing.T) {
	for _, n := range []int{0, -1, -MaxCells, MaxCells + 1, 2 * MaxCells, 1<<32 + 1, math.MaxInt, math.MinInt} {
		if m, err := New(n); m != nil || err != api.ErrInvalid {
			t.Errorf("P2.1: New(%d): %v, %v", n, m != nil, err)
		}
	}
}

// P2.1, P2.4: two memories share nothing.
func TestNewIsIndependent(t *testing.T) {
	a, b := filled(t, 2), filled(t, 2)
	a.Store(0, full)
	b.Swap(1, 2, full)
	b.Load(1)
	expect(t, "P2.1", a, 1, full, content(1))
	expect(t, "P2.1", b, 2, content(0), full)
}

// P2.2
func TestLoad(t *testing.T) {
	m := filled(t, 4)
	for i := range 4 {
		for range 2 {
			if got := m.Load(i); got != content(i) {
				t.Errorf("P2.2: Load(%d) is %#v", i, got)
			}
		}
	}
	expect(t, "P2.2", m, 8, content(0), content(1), content(2), content(3))
}

// P2.2: Store replaces all parts of a cell, and no other cell.
func TestStore(t *testing.T) {
	for i := range 3 {
		for n, c := range []api.Cell{full, {N: 1}, {K: "k"}, {M: 1}, {}, {N: math.MaxUint64, M: math.MaxUint64}} {
			m := filled(t, 3)
			want := []api.Cell{content(0), content(1), content(2)}
			want[i] = c
			m.Store(i, c)
			expect(t, "P2.2", m, 1, want...)
			if got := m.Load(i); got != c {
				t.Errorf("P2.2: content %d: Load(%d) is %#v", n, i, got)
			}
		}
	}
}

// P2.2: the chapter's example.
func TestSwapExample(t *testing.T) {
	m, _ := New(1)
	if !m.Swap(0, 0, api.Cell{N: 5}) || m.Swap(0, 0, api.Cell{N: 6}) {
		t.Error("P2.2: example")
	}
	expect(t, "P2.2", m, 2, api.Cell{N: 5})
}

// P2.2: a Swap that succeeds replaces all parts of the cell, and no other cell.
func TestSwapReplaces(t *testing.T) {
	for i := range 3 {
		for _, c := range []api.Cell{full, content(i), {N: content(i).N}, {K: "k"}, {}} {
			m := filled(t, 3)
			want := []api.Cell{content(0), content(1), content(2)}
			want[i] = c
			if !m.Swap(i, content(i).N, c) {
				t.Errorf("P2.2: Swap(%d, %d, %v) returned false", i, content(i).N, c)
			}
			expect(t, "P2.2", m, 1, want...)
		}
	}
}

// P2.2: a Swap that fails changes nothing, but is an access. Only the N of the content counts, and all its bits do.
func TestSwapFails(t *testing.T) {
	for _, old := range []uint64{0, 4, 6, 7, 5 + 1<<32, 5 + 1<<63, math.MaxUint64} {
		m, _ := New(2)
		m.Poke(0, full)
		if m.Swap(0, old, api.Cell{N: 8, K: "y", M: 9}) {
			t.Errorf("P2.2: Swap with old %d returned true", old)
		}
		expect(t, "P2.2", m, 1, full, api.Cell{})
	}
	m, _ := New(1)
	m.Poke(0, api.Cell{K: "k", M: 3})
	if m.Swap(0, 3, full) || !m.Swap(0, 0, full) {
		t.Error("P2.2: a content whose N is zero")
	}
	expect(t, "P2.2", m, 2, full)
	m.Poke(0, api.Cell{N: math.MaxUint64})
	if !m.Swap(0, math.MaxUint64, api.Cell{}) {
		t.Error("P2.2: the greatest N")
	}
	expect(t, "P2.2", m, 3, api.Cell{})
}

// P2.2: a call with another number has no effect and returns nothing, but is an access.
func TestAccessesOutside(t *testing.T) {
	for _, i := range wrong(3) {
		m := filled(t, 3)
		if got := m.Load(i); got != (api.Cell{}) || m.Accesses() != 1 {
			t.Errorf("P2.2: Load(%d) is %#v, %d accesses", i, got, m.Accesses())
		}
		m.Store(i, full)
		expect(t, "P2.2", m, 2, content(0), content(1), content(2))
		for n, old := range []uint64{0, 1, 3, full.N} {
			if m.Swap(i, old, full) {
				t.Errorf("P2.2: Swap(%d, %d) returned true", i, old)
			}
			expect(t, "P2.2", m, uint64(n)+3, content(0), content(1), content(2))
		}
		if got := m.Load(i); got != (api.Cell{}) {
			t.Errorf("P2.2: Load(%d) is %#v after a Store", i, got)
		}
	}
}

// P2.3: Peek and Poke do what Load and Store do, for every number, but are not accesses.
func TestPeekAndPoke(t *testing.T) {
	for _, i := range append(wrong(3), 0, 1, 2) {
		a, b := filled(t, 3), filled(t, 3)
		if got, want := a.Peek(i), b.Load(i); got != want {
			t.Errorf("P2.3: Peek(%d) is %#v, Load %#v", i, got, want)
		}
		a.Poke(i, full)
		b.Store(i, full)
		expect(t, "P2.3", a, 0, b.Peek(0), b.Peek(1), b.Peek(2))
		if got, want := a.Peek(i), b.Load(i); got != want {
			t.Errorf("P2.3: Peek(%d) is %#v after Poke, Load %#v after Store", i, got, want)
		}
		a.Poke(i, api.Cell{})
		if a.Peek(i) != (api.Cell{}) || a.Cells() != 3 || a.Accesses() != 0 {
			t.Errorf("P2.3: Poke(%d) of a zero cell: %#v", i, a.Peek(i))
		}
	}
}

// P2.3: what Poke writes is seen by accesses, and what they write by Peek.
func TestPokeIsSeenByAccesses(t *testing.T) {
	m, _ := New(2)
	m.Poke(0, full)
	if m.Load(0) != full || !m.Swap(0, full.N, api.Cell{N: 1}) || m.Peek(0) != (api.Cell{N: 1}) {
		t.Error("P2.3: cell 0")
	}
	m.Store(1, full)
	if m.Peek(1) != full || m.Accesses() != 3 {
		t.Errorf("P2.3: cell 1 is %#v, %d accesses", m.Peek(1), m.Accesses())
	}
}

// P2.3
func TestCopy(t *testing.T) {
	for _, n := range []int{1, 2, 3, 1000} {
		m := filled(t, n)
		for range n {
			m.Load(-1)
		}
		c := m.Copy()
		if c == nil || c == m || c.Cells() != n || c.Accesses() != uint64(n) || m.Accesses() != uint64(n) {
			t.Fatalf("P2.3: Copy of %d cells", n)
		}
		for i := range n {
			if c.Peek(i) != content(i) || m.Peek(i) != content(i) {
				t.Fatalf("P2.3: cell %d of a copy is %#v", i, c.Peek(i))
			}
		}
		if c.Load(n) != (api.Cell{}) || c.Load(-1) != (api.Cell{}) {
			t.Error("P2.3: a copy has further cells")
		}
	}
}

// P2.3: neither contents nor numbers of accesses of a memory and its copies depend on each other.
func TestCopyIsIndependent(t *testing.T) {
	m := filled(t, 3)
	m.Load(0)
	a := m.Copy()
	m.Store(0, full)
	b := m.Copy()
	a.Swap(1, content(1).N, api.Cell{})
	a.Load(1)
	b.Poke(2, api.Cell{N: 1})
	m.Poke(1, api.Cell{M: 1})
	expect(t, "P2.3", m, 2, full, api.Cell{M: 1}, content(2))
	expect(t, "P2.3", a, 3, content(0), api.Cell{}, content(2))
	expect(t, "P2.3", b, 2, full, content(1), api.Cell{N: 1})
	c := a.Copy()
	c.Store(2, full)
	expect(t, "P2.3", a, 3, content(0), api.Cell{}, content(2))
	expect(t, "P2.3", c, 4, content(0), api.Cell{}, full)
}

// reference is a memory that keeps its cells in a map: what P2.2 and P2.3 say, without numbers of accesses.
type reference struct {
	size  int
	cells map[int]api.Cell
}

func (r reference) store(i int, c api.Cell) {
	if i >= 0 && i < r.size {
		r.cells[i] = c
	}
}

func (r reference) swap(i int, old uint64, c api.Cell) bool {
	swaps := i >= 0 && i < r.size && r.cells[i].N == old
	if swaps {
		r.store(i, c)
	}
	return swaps
}

// P2.2, P2.3: long sequences of calls do what the same calls do on the reference.
func TestSequences(t *testing.T) {
	m, _ := New(5)
	r := reference{size: 5, cells: map[int]api.Cell{}}
	state, accesses := uint32(1), uint64(0)
	pick := func(n int) int {
		state = state*1664525 + 1013904223
		return int(state>>16) % n
	}
	for n := range 20000 {
		i, old, call := pick(9)-2, uint64(pick(3)), pick(6)
		c := api.Cell{N: uint64(pick(3)), K: strings.Repeat("k", pick(3)), M: uint64(pick(3))}
		right := true
		switch call {
		case 0:
			right = m.Load(i) == r.cells[i]
		case 1:
			m.Store(i, c)
			r.store(i, c)
		case 2:
			right = m.Swap(i, old, c) == r.swap(i, old, c)
		case 3:
			right = m.Peek(i) == r.cells[i]
		case 4:
			m.Poke(i, c)
			r.store(i, c)
		case 5:
			m = m.Copy()
		}
		if call < 3 {
			accesses++
		}
		if !right || m.Accesses() != accesses || m.Cells() != 5 {
			t.Fatalf("P2.2, P2.3: call %d, of kind %d: %v, %d accesses, want %d", n, call, right, m.Accesses(), accesses)
		}
	}
}
