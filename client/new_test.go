package client

import (
	"math"
	"slices"
	"testing"

	"blinktree/api"
)

// expectInvalid reports an error if there is a client.
func expectInvalid(t *testing.T, d *database, thread int, program []api.Op) {
	t.Helper()
	if c, err := New(d.l, thread, program); c != nil || err != api.ErrInvalid {
		t.Errorf("P22.2: New for the thread %d and %d operations returns %v and the error %d", thread, len(program), c, err)
	}
}

// expectIdle reports an error if a client is not as it is before its first step.
func expectIdle(t *testing.T, c *Client, finished bool) {
	t.Helper()
	if c.Busy() || c.Finished() != finished || c.Index() != 0 || c.Answer() != (api.Answer{}) {
		t.Errorf("P22.5: a new client is Busy %t, Finished %t, Index %d, Answer %v", c.Busy(), c.Finished(), c.Index(), c.Answer())
	}
}

// P22.2: the threads of configurations of several sizes, and others.
func TestThreads(t *testing.T) {
	for _, threads := range []int{1, 2, 3, api.MaxThreads} {
		c := small()
		c.Threads = threads
		d := empty(t, c)
		for thread := range threads {
			expectIdle(t, d.client(t, thread), true)
			expectIdle(t, d.client(t, thread, sweep()), false)
		}
		for _, thread := range []int{math.MinInt, -1, threads, threads + 1, math.MaxInt} {
			expectInvalid(t, d, thread, nil)
		}
	}
}

// P22.2: programs of all lengths around the greatest one.
func TestProgramLength(t *testing.T) {
	d := empty(t, small())
	program := slices.Repeat([]api.Op{closing(0)}, api.MaxOps)
	expectInvalid(t, d, 0, append(slices.Clone(program), closing(0)))
	expectInvalid(t, d, 0, slices.Repeat(program, 3))
	for _, n := range []int{0, 1, api.MaxOps - 1, api.MaxOps} {
		c := d.client(t, 0, program[:n]...)
		if x := d.answers(t, c); len(x) != n || c.Index() != n {
			t.Errorf("P22.2: of %d operations, %d return, and Index is %d", n, len(x), c.Index())
		}
	}
}

// P22.2: an operation that is not valid, at each place of a program.
func TestInvalidOperation(t *testing.T) {
	d := empty(t, small())
	program := []api.Op{get("a"), write("a", "1"), snap(1), open(0, 1), move(0, api.MoveNext), sweep()}
	d.client(t, 1, program...)
	for _, op := range []api.Op{{}, {Code: 10}, snap(2), release(-1), open(8, 0), move(0, 5), {Code: api.OpGet, Time: 1}, {Code: api.OpMove, Move: 1, Key: "k"}} {
		for i := range len(program) + 1 {
			expectInvalid(t, d, 1, slices.Insert(slices.Clone(program), i, op))
		}
	}
}

// P22.2: New makes no access and no step of an operation.
func TestNewNoAccess(t *testing.T) {
	d := empty(t, small())
	cells := d.cells()
	d.client(t, 0, write("a", "1"), snap(0))
	if d.m.Accesses() != 0 || !slices.Equal(d.cells(), cells) {
		t.Error("P22.2: New makes an access, or changes a cell")
	}
}

// Rule 3: a client neither changes nor keeps the program and its batches.
func TestProgramNotKept(t *testing.T) {
	d := empty(t, small())
	writes := put("c", "1", "a", "2", "b", "3", "a", "4")
	program := []api.Op{apply(writes), get("a"), get("c"), apply(writes[1:2]), get("a")}
	want, wrote := slices.Clone(program), slices.Clone(writes)
	c := d.client(t, 0, program...)
	for i := range program {
		program[i] = sweep()
	}
	for i := range writes {
		writes[i] = api.Write{Key: "overwritten", Value: "w"}
	}
	x := d.answers(t, c)
	if !slices.Equal(x, []api.Answer{at(1), entry(1, "a", "4"), entry(1, "c", "1"), at(2), entry(2, "a", "2")}) {
		t.Errorf("rule 3: after its program was overwritten, a client answers %v", x)
	}
	copy(program, want)
	copy(writes, wrote)
	d.perform(t, 0, program...)
	for i, op := range program {
		if op.Code != want[i].Code || op.Key != want[i].Key {
			t.Errorf("rule 3: a client changes operation %d of its program", i)
		}
	}
	if !slices.Equal(writes, wrote) {
		t.Errorf("rule 3: a client changes its batch to %v", writes)
	}
}
