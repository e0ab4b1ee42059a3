package client

import (
	"slices"
	"strings"
	"testing"

	"blinktree/api"
)

// scene returns a small database with the entries a 1, b 2 at the time 1; a 1 at 2; and a 3, c 4 at 3.
func scene(t *testing.T) *database {
	t.Helper()
	d := empty(t, small())
	d.apply(t, put("b", "2", "a", "1"), put("b", ""), put("a", "3", "c", "4"))
	return d
}

// expectAnswers performs operations in thread 0, and reports an error if the answers are not as wanted.
func (d *database) expectAnswers(t *testing.T, promise string, program []api.Op, want ...api.Answer) {
	t.Helper()
	_, x := d.perform(t, 0, program...)
	for i, op := range program {
		if x[i] != want[i] {
			t.Errorf("%s: operation %d, %v, answers %v, want %v", promise, i, op, x[i], want[i])
		}
	}
}

// P22.3: the example of the chapter.
func TestExample(t *testing.T) {
	d := empty(t, small())
	c := d.client(t, 0, open(0, 0), snap(0))
	if e := c.Step(d.m); e != (Event{Started: true, Effect: true, Done: true}) || d.m.Accesses() != 0 || c.Answer() != fails(api.ErrClosed) {
		t.Errorf("P22.3: the first step returns %v with %v, and makes %d accesses", e, c.Answer(), d.m.Accesses())
	}
	for i, want := range []Event{{Started: true}, {Effect: true}, {Done: true}} {
		if e := c.Step(d.m); e != want || d.m.Accesses() != uint64(i+1) || c.Answer() != (api.Answer{}) {
			t.Errorf("P22.3: step %d returns %v with %v, and makes %d accesses", i+1, e, c.Answer(), d.m.Accesses())
		}
	}
	if !c.Finished() || d.m.Peek(d.l.Snapshot(0, 0)).N != 1 {
		t.Error("P22.4: the snapshot is not open")
	}
}

// P22.4: reads of the present and of the past.
func TestReads(t *testing.T) {
	d := scene(t)
	d.expectAnswers(t, "P22.4",
		[]api.Op{get("a"), get("b"), get(""), get(longest), get(tooLong), get(tooLong + longest)},
		entry(3, "a", "3"), none(3, "b"), none(3, ""), none(3, longest), fails(api.ErrTooLarge), fails(api.ErrTooLarge))
	d.expectAnswers(t, "P22.4",
		[]api.Op{getAt("a", 0), getAt("b", 1), getAt("b", 2), getAt("a", 3), getAt("a", 4), getAt("a", 1<<63), getAt(longest, 3)},
		none(0, "a"), entry(1, "b", "2"), none(2, "b"), entry(3, "a", "3"), fails(api.ErrFuture), fails(api.ErrFuture), none(3, longest))
	d.expectAnswers(t, "P22.4",
		[]api.Op{sweep(), getAt("a", 2), getAt("a", 3), getAt("a", 4), getAt(tooLong, 2), getAt(tooLong, 3), getAt(tooLong, 4), get("c")},
		at(3), fails(api.ErrVacuumed), entry(3, "a", "3"), fails(api.ErrFuture), fails(api.ErrTooLarge), fails(api.ErrTooLarge),
		fails(api.ErrTooLarge), entry(3, "c", "4"))
}

// P22.4: batches are checked, and applied in their normal form.
func TestBatches(t *testing.T) {
	full := make([]api.Write, api.MaxBatch)
	for i := range full {
		full[i] = api.Write{Key: longest[:i+1], Value: strings.Repeat("v", api.MaxValue)}
	}
	both := api.Write{Key: "k", Value: "v", Delete: true}
	d := empty(t, large(2, 2, 4))
	d.expectAnswers(t, "P22.4",
		[]api.Op{
			apply(full), apply(nil), apply(append(slices.Clone(full), api.Write{})), apply([]api.Write{both}),
			apply([]api.Write{both, {Key: tooLong}}), apply([]api.Write{both, {Value: strings.Repeat("v", api.MaxValue+1)}}),
			apply(slices.Repeat([]api.Write{both}, api.MaxBatch+1)), write("b", "1", "a", "2", "b", "3", "a", ""), get("a"), get("b"),
			write("x", "1", "x", "", "", "5"), get("x"), get(""), get(longest[:3]), apply(full[:1]),
		},
		at(1), at(2), fails(api.ErrTooLarge), fails(api.ErrInvalid), fails(api.ErrTooLarge), fails(api.ErrTooLarge), fails(api.ErrTooLarge),
		at(3), none(3, "a"), entry(3, "b", "3"), at(4), none(4, "x"), entry(4, "", "5"), entry(4, longest[:3], full[2].Value), at(5))
}

// P22.4: a batch for which something is missing.
func TestMissing(t *testing.T) {
	for _, x := range []struct {
		change func(c *api.Config)
		want   api.Answer
	}{
		{func(c *api.Config) { c.Records = 5 }, fails(api.ErrFull)},
		{func(c *api.Config) { c.Chains = 4 }, fails(api.ErrFull)},
		{func(c *api.Config) { c.Nodes = 1 }, fails(api.ErrFull)},
		{func(c *api.Config) { c.Clock = 1 }, fails(api.ErrClock)},
	} {
		c := small()
		x.change(&c)
		d := empty(t, c)
		d.expectAnswers(t, "P22.4",
			[]api.Op{write("a", "1", "b", "1", "c", "1", "d", "1"), write("d", "2", "e", "2"), get("d"), get("e"), snap(0)},
			at(1), x.want, entry(1, "d", "1"), none(1, "e"), at(1))
	}
}

// P22.4: snapshots, and cursors on them, where the first case that applies counts.
func TestFirstCase(t *testing.T) {
	d := scene(t)
	d.expectAnswers(t, "P22.4",
		[]api.Op{
			release(0), snap(0), snap(0), release(1), // the other snapshot is not open
			open(0, 1), open(0, 0), open(0, 0), open(0, 1), // also for a cursor that is open, a snapshot that is not comes first
			seek(1, "a"), seek(1, tooLong), seek(0, tooLong), seek(0, longest), closing(1), closing(0), closing(0),
			seek(0, tooLong), release(0), release(0), open(0, 0), closing(0),
		},
		fails(api.ErrClosed), at(3), fails(api.ErrOpen), fails(api.ErrClosed),
		fails(api.ErrClosed), at(3), fails(api.ErrOpen), fails(api.ErrClosed),
		fails(api.ErrClosed), fails(api.ErrClosed), fails(api.ErrTooLarge), end(3), fails(api.ErrClosed), at(3), fails(api.ErrClosed),
		fails(api.ErrClosed), at(3), fails(api.ErrClosed), fails(api.ErrClosed), fails(api.ErrClosed))
}

// P22.4: a failing operation leaves snapshots and cursors as they are: their times, their positions, and what they are on.
func TestFailuresChangeNothing(t *testing.T) {
	d := scene(t)
	d.expectAnswers(t, "P22.4",
		[]api.Op{
			snap(0), open(3, 0), move(3, api.MoveNext), write("a", "9", "b", "9"), snap(1),
			snap(0), open(3, 0), open(3, 1), seek(3, tooLong), closing(4), move(3, api.MoveNext),
			open(4, 0), release(1), release(1), move(4, api.MoveFirst), move(3, api.MovePrev), closing(3), closing(4), release(0),
		},
		at(3), at(3), entry(3, "a", "3"), at(4), at(4),
		fails(api.ErrOpen), fails(api.ErrOpen), fails(api.ErrOpen), fails(api.ErrTooLarge), fails(api.ErrClosed), entry(3, "c", "4"),
		at(3), at(4), fails(api.ErrClosed), entry(3, "a", "3"), entry(3, "a", "3"), at(3), at(3), at(3))
}

// P22.4: all moves of a cursor, which goes on from where it is, and starts before the first entry, also when it is opened again.
func TestMoves(t *testing.T) {
	d := scene(t)
	d.expectAnswers(t, "P22.4",
		[]api.Op{
			snap(0), open(0, 0), move(0, api.MovePrev), move(0, api.MoveNext), move(0, api.MoveNext), move(0, api.MoveNext), move(0, api.MoveNext),
			move(0, api.MovePrev), move(0, api.MoveFirst), move(0, api.MoveLast), seek(0, "b"), seek(0, ""), seek(0, "d"), move(0, api.MovePrev),
			closing(0), open(0, 0), move(0, api.MoveNext), closing(0), open(0, 0), move(0, api.MovePrev),
		},
		at(3), at(3), end(3), entry(3, "a", "3"), entry(3, "c", "4"), end(3), end(3),
		entry(3, "c", "4"), entry(3, "a", "3"), entry(3, "c", "4"), entry(3, "c", "4"), entry(3, "a", "3"), end(3), entry(3, "c", "4"),
		at(3), at(3), entry(3, "a", "3"), at(3), at(3), end(3))
}

// P22.4: before the first batch, snapshots have the time 0, and a cursor finds no entry.
func TestTimeZero(t *testing.T) {
	d := empty(t, small())
	d.expectAnswers(t, "P22.4",
		[]api.Op{
			snap(0), write("a", "1"), snap(1), sweep(), open(0, 0), open(1, 1), move(0, api.MoveFirst), move(1, api.MoveFirst), snap(0),
			closing(0), release(0), release(0), sweep(), getAt("a", 0),
		},
		at(0), at(1), at(1), at(0), at(0), at(1), end(0), entry(1, "a", "1"), fails(api.ErrOpen),
		at(0), at(0), fails(api.ErrClosed), at(1), fails(api.ErrVacuumed))
}

// P22.4: all snapshots and all cursors of a thread, each snapshot at another time. Releasing one closes the cursors on it, and no others.
func TestReleaseCloses(t *testing.T) {
	for released := range api.MaxSnapshots {
		d := empty(t, large(2, api.MaxSnapshots, 4))
		var program []api.Op
		var want []api.Answer
		expect := func(op api.Op, answer api.Answer) { program, want = append(program, op), append(want, answer) }
		for i := range api.MaxSnapshots {
			time := uint64(i + 1)
			expect(write("a", string(rune('0'+i))), at(time))
			expect(snap(i), at(time))
		}
		on := func(i int) int { return (i*3 + i/3) % 5 }
		for i := range api.MaxCursors {
			expect(open(i, on(i)), at(uint64(on(i)+1)))
		}
		expect(release(released), at(uint64(released+1)))
		for i := range api.MaxCursors {
			if on(i) == released {
				expect(move(i, api.MoveNext), fails(api.ErrClosed))
				expect(closing(i), fails(api.ErrClosed))
				expect(open(i, released), fails(api.ErrClosed))
				continue
			}
			expect(move(i, api.MoveNext), entry(uint64(on(i)+1), "a", string(rune('0'+on(i)))))
		}
		expect(snap(released), at(api.MaxSnapshots))
		for i := range api.MaxCursors {
			if on(i) == released {
				expect(move(i, api.MoveNext), fails(api.ErrClosed))
				expect(open(i, released), at(api.MaxSnapshots))
			} else {
				expect(closing(i), at(uint64(on(i)+1)))
			}
		}
		d.expectAnswers(t, "P22.4", program, want...)
	}
}

// P22.4: the snapshots and cursors of one thread are not those of another.
func TestThreadsApart(t *testing.T) {
	c := large(3, 2, 4)
	d := empty(t, c)
	a := newArena(t, d,
		[]api.Op{write("a", "1"), snap(1), open(0, 1), move(0, api.MoveNext), release(1), move(0, api.MoveNext)},
		[]api.Op{open(0, 1), closing(0), release(1), write("a", "2"), snap(1), open(0, 1), move(0, api.MoveNext)},
		[]api.Op{release(1), snap(0), snap(1), open(0, 1), closing(0), release(1), move(0, api.MoveNext)},
	)
	// The operations of all threads, one after the other, a whole one each.
	for _, thread := range []int{0, 0, 1, 2, 1, 1, 0, 0, 1, 2, 2, 1, 2, 2, 0, 1, 1, 2, 0, 2} {
		for !a.pick(t, thread).Done {
		}
	}
	for thread, want := range [][]api.Answer{
		{at(1), at(1), at(1), entry(1, "a", "1"), at(1), fails(api.ErrClosed)},
		{fails(api.ErrClosed), fails(api.ErrClosed), fails(api.ErrClosed), at(2), at(2), at(2), entry(2, "a", "2")},
		{fails(api.ErrClosed), at(2), at(2), at(2), at(2), at(2), fails(api.ErrClosed)},
	} {
		for i, r := range a.watchers[thread].records {
			if r.Answer != want[i] {
				t.Errorf("P22.4: operation %d of thread %d answers %v, want %v", i, thread, r.Answer, want[i])
			}
		}
	}
	a.judge(t, "P22.4")
	for i, n := range map[int]uint64{d.l.Snapshot(0, 1): 0, d.l.Snapshot(1, 1): 3, d.l.Snapshot(2, 0): 3, d.l.Snapshot(2, 1): 0} {
		if d.m.Peek(i).N != n {
			t.Errorf("P22.4: the cell %d contains %d, want %d", i, d.m.Peek(i).N, n)
		}
	}
}

// P22.3, P22.4: operations whose answers are known, each of which is one step without an access. They change no cell.
func TestKnown(t *testing.T) {
	d := scene(t)
	begin := []api.Op{snap(0), open(0, 0)}
	cells := d.cells()
	for _, x := range []struct {
		op   api.Op
		want api.Answer
	}{
		{get(tooLong), fails(api.ErrTooLarge)}, {getAt(tooLong, 0), fails(api.ErrTooLarge)}, {getAt(tooLong, 9), fails(api.ErrTooLarge)},
		{apply([]api.Write{{Key: tooLong}}), fails(api.ErrTooLarge)}, {apply([]api.Write{{Value: "v", Delete: true}}), fails(api.ErrInvalid)},
		{snap(0), fails(api.ErrOpen)}, {release(1), fails(api.ErrClosed)},
		{open(1, 0), at(3)}, {open(1, 1), fails(api.ErrClosed)}, {open(0, 0), fails(api.ErrOpen)},
		{seek(1, "a"), fails(api.ErrClosed)}, {seek(0, tooLong), fails(api.ErrTooLarge)}, {move(0, api.MovePrev), end(3)},
		{closing(0), at(3)}, {closing(1), fails(api.ErrClosed)},
	} {
		d := d.copy()
		c := d.client(t, 1, append(slices.Clone(begin), x.op)...)
		for c.Index() < len(begin) || c.Busy() {
			c.Step(d.m)
		}
		accesses := d.m.Accesses()
		e := c.Step(d.m)
		if e != (Event{Started: true, Effect: true, Done: true}) || d.m.Accesses() != accesses || c.Answer() != x.want {
			t.Errorf("P22.3, P22.4: %v returns %v with %v, and makes %d accesses", x.op, e, c.Answer(), d.m.Accesses()-accesses)
		}
		d.set(d.l.Snapshot(1, 0), 0)
		if !slices.Equal(d.cells(), cells) {
			t.Errorf("P22.4: %v changes a cell", x.op)
		}
	}
}

// P22.4: whenever the answer is not known, there is an access, also for a read of what cannot be there.
func TestNotKnown(t *testing.T) {
	d := scene(t)
	for _, op := range []api.Op{
		get(""), getAt("", 1<<63), apply(nil), write("zz", ""), snap(1), release(0), move(0, api.MoveNext), seek(0, longest),
		move(0, api.MoveLast), sweep(),
	} {
		d := d.copy()
		c := d.client(t, 1, snap(0), open(0, 0), op)
		for c.Index() < 2 || c.Busy() {
			c.Step(d.m)
		}
		accesses := d.m.Accesses()
		for !c.Finished() {
			if c.Step(d.m); d.m.Accesses() != accesses+1 {
				t.Fatalf("P22.3: %v makes %d accesses in a step", op, d.m.Accesses()-accesses)
			}
			accesses++
		}
	}
}

// P22.3, P22.5: behind the end of a program, a step has no effect, and the last answer stays.
func TestBehindTheEnd(t *testing.T) {
	for _, program := range [][]api.Op{nil, {get("a")}, {snap(0), get("b")}, {get("a"), snap(0)}, {closing(0)}, {write("d", "1")}, {snap(0), release(0)}} {
		d := scene(t)
		c := d.client(t, 1, program...)
		d.answers(t, c)
		cells, accesses, answer := d.cells(), d.m.Accesses(), c.Answer()
		for range 3 {
			if e := c.Step(d.m); e != (Event{}) || c.Busy() || !c.Finished() || c.Index() != len(program) || c.Answer() != answer {
				t.Fatalf("P22.3: behind %v, a step returns %v with Busy %t, Index %d, Answer %v", program, e, c.Busy(), c.Index(), c.Answer())
			}
		}
		if d.m.Accesses() != accesses || !slices.Equal(d.cells(), cells) || len(program) > 0 && answer == (api.Answer{}) {
			t.Fatalf("P22.3: behind %v, a step makes an access or changes a cell, or the answer was zero", program)
		}
	}
}
