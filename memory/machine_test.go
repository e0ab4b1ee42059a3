package memory

import (
	"strings"
	"testing"

	"blinktree/api"
)

// machine is what P2.4 asks of the machines of the later layers.
type machine interface{ Step(m *Memory) bool }

// adder is a machine that adds 1 to the N of a cell: it loads the cell, and swaps it, until the swap succeeds.
type adder struct {
	cell             int
	loaded, finished bool
	seen             api.Cell
}

func (a *adder) Step(m *Memory) bool {
	if a.finished {
		return true
	}
	if !a.loaded {
		a.seen = m.Load(a.cell)
		a.loaded = true
		return false
	}
	sum := api.Cell{N: a.seen.N + 1, K: a.seen.K, M: a.seen.M}
	a.finished = m.Swap(a.cell, a.seen.N, sum)
	a.loaded = a.finished
	return a.finished
}

// sum returns what the cell contained after the addition.
func (a *adder) sum() uint64 {
	if !a.finished {
		return 0
	}
	return a.seen.N + 1
}

// fixed is a machine with the steps that a test gives it.
type fixed struct {
	steps []func(m *Memory) bool
	next  int
}

func (f *fixed) Step(m *Memory) bool {
	step := f.steps[min(f.next, len(f.steps)-1)]
	f.next++
	return step(m)
}

// step makes one step and returns what of P2.4 it broke: a machine that has not finished makes one access, and one that
// has finished makes none, changes nothing, and still says so.
func step(m *Memory, s machine, finished bool) (bool, string) {
	before := m.Copy()
	done := s.Step(m)
	made := m.Accesses() - before.Accesses()
	if !finished {
		if made != 1 {
			return done, "a step of a machine that has not finished does not make one access"
		}
		return done, ""
	}
	if made != 0 {
		return done, "a finished machine makes an access"
	}
	if !done {
		return done, "a finished machine says that it has not finished"
	}
	for i := range m.Cells() {
		if m.Peek(i) != before.Peek(i) {
			return done, "a finished machine changes a cell"
		}
	}
	return done, ""
}

// run makes at most limit steps until s finishes, and then three more, and returns what of P2.4 s broke.
func run(m *Memory, s machine, limit int) string {
	for range limit {
		done, broken := step(m, s, false)
		if broken != "" {
			return broken
		}
		if done {
			return runFinished(m, s)
		}
	}
	return "a machine does not finish"
}

// runFinished makes three steps of a machine that has finished.
func runFinished(m *Memory, s machine) string {
	for range 3 {
		if _, broken := step(m, s, true); broken != "" {
			return broken
		}
	}
	return ""
}

// P2.4: each step is one access, whatever the cell is; a finished machine makes none.
func TestMachine(t *testing.T) {
	m := filled(t, 2)
	a := &adder{cell: 1}
	if a.sum() != 0 || m.Accesses() != 0 {
		t.Error("P2.4: making a machine makes an access, or gives it a result")
	}
	if broken := run(m, a, 2); broken != "" || a.sum() != 3 {
		t.Errorf("P2.4: %s, sum %d", broken, a.sum())
	}
	expect(t, "P2.4", m, 2, content(0), api.Cell{N: 3, K: content(1).K, M: content(1).M})
	outside := &adder{cell: 2}
	if broken := run(m, outside, 20); !strings.Contains(broken, "does not finish") || outside.sum() != 0 {
		t.Errorf("P2.4: a machine at a cell that does not exist: %q, sum %d", broken, outside.sum())
	}
	expect(t, "P2.4", m, 22, content(0), api.Cell{N: 3, K: content(1).K, M: content(1).M})
}

// P2.4: the numbers of accesses show each way to break the promise.
func TestMachinesThatBreakTheRule(t *testing.T) {
	load := func(m *Memory) bool { m.Load(0); return true }
	for _, c := range []struct {
		broken string
		steps  []func(m *Memory) bool
	}{
		{"does not make one access", []func(m *Memory) bool{func(m *Memory) bool { return true }}},
		{"does not make one access", []func(m *Memory) bool{func(m *Memory) bool { m.Peek(0); return true }}},
		{"does not make one access", []func(m *Memory) bool{func(m *Memory) bool { m.Poke(0, full); return true }}},
		{"does not make one access", []func(m *Memory) bool{func(m *Memory) bool { m.Load(0); m.Load(1); return true }}},
		{"does not make one access", []func(m *Memory) bool{func(m *Memory) bool { m.Load(0); m.Store(-1, full); return true }}},
		{"does not make one access", []func(m *Memory) bool{func(m *Memory) bool { m.Swap(0, 9, full); m.Load(9); return false }}},
		{"makes an access", []func(m *Memory) bool{load, load}},
		{"makes an access", []func(m *Memory) bool{load, func(m *Memory) bool { m.Swap(-1, 0, full); return true }}},
		{"says that it has not", []func(m *Memory) bool{load, func(m *Memory) bool { return false }}},
		{"changes a cell", []func(m *Memory) bool{load, func(m *Memory) bool { m.Poke(1, full); return true }}},
		{"does not finish", []func(m *Memory) bool{func(m *Memory) bool { m.Load(0); return false }}},
	} {
		if broken := run(filled(t, 2), &fixed{steps: c.steps}, 5); !strings.Contains(broken, c.broken) {
			t.Errorf("P2.4: %q, want %q", broken, c.broken)
		}
	}
	right := &fixed{steps: []func(m *Memory) bool{load, func(m *Memory) bool { return true }}}
	if broken := run(filled(t, 2), right, 5); broken != "" {
		t.Errorf("P2.4: %q of a machine that keeps the promise", broken)
	}
}

// P2.4: two machines interact only through the memory, in every order of their steps: no addition is lost.
func TestMachinesInEveryOrder(t *testing.T) {
	const picks = 8
	for order := range 1 << picks {
		m := filled(t, 2)
		machines := []*adder{{}, {}}
		done := []bool{false, false}
		pick := func(k int) {
			now, broken := step(m, machines[k], done[k])
			if broken != "" {
				t.Errorf("P2.4: order %d: %s", order, broken)
			}
			done[k] = now
		}
		for n := range picks {
			pick(order >> n & 1)
		}
		for range 3 {
			pick(0)
			pick(1)
		}
		if !done[0] || !done[1] || m.Peek(0).N != 3 || machines[0].sum()+machines[1].sum() != 2+3 {
			t.Errorf("P2.4: order %d: %v, sums %d and %d", order, m.Peek(0), machines[0].sum(), machines[1].sum())
		}
	}
}

// P2.4: machines on different memories do not interact, and a machine on a copy takes the steps that it takes on the memory.
func TestMachinesOnTwoMemories(t *testing.T) {
	m := filled(t, 2)
	m.Load(0)
	c := m.Copy()
	a, b := &adder{}, &adder{}
	for range 2 {
		a.Step(m)
		b.Step(c)
	}
	want := api.Cell{N: 2, K: content(0).K, M: content(0).M}
	if a.sum() != 2 || b.sum() != 2 {
		t.Errorf("P2.4: sums %d and %d", a.sum(), b.sum())
	}
	expect(t, "P2.4", m, 3, want, content(1))
	expect(t, "P2.4", c, 3, want, content(1))
}
