package client

import (
	"slices"
	"testing"

	"blinktree/api"
	"blinktree/batch"
	"blinktree/commit"
	"blinktree/cursor"
	"blinktree/memory"
	"blinktree/read"
	"blinktree/registry"
	"blinktree/vacuum"
)

// raw is a machine of a lower layer that performs an operation.
type raw struct {
	step   func(m *memory.Memory) bool
	answer func() api.Answer
	marks  func() int // nil if the operation takes effect in its last step
}

// rawOf returns the machine of an operation that follows the prelude.
func (d *database) rawOf(op api.Op) raw {
	switch op.Code {
	case api.OpGet:
		g := read.NewGet(d.l, op.Key)
		return raw{g.Step, g.Answer, g.Marks}
	case api.OpGetAt:
		g := read.NewGetAt(d.l, op.Key, op.Time)
		return raw{g.Step, g.Answer, g.Marks}
	case api.OpApply:
		b, _ := batch.Normalize(op.Batch)
		a := commit.NewApply(d.l, b)
		return raw{a.Step, a.Answer, a.Marks}
	case api.OpSnapshot:
		o := registry.NewOpen(d.l, preludeThread, op.Handle)
		return raw{o.Step, func() api.Answer { return at(o.Time()) }, o.Marks}
	case api.OpRelease:
		time := d.m.Peek(d.l.Snapshot(preludeThread, op.Handle)).N - 1
		return raw{registry.NewRelease(d.l, preludeThread, op.Handle).Step, func() api.Answer { return at(time) }, nil}
	case api.OpMove:
		v := cursor.NewMove(d.l, preludeTime, preludePosition, op.Move, op.Key)
		return raw{v.Step, v.Answer, nil}
	}
	p := vacuum.NewPass(d.l)
	return raw{p.Step, p.Answer, p.Marks}
}

// prelude is what a client does before the operation: after it, cursor 2 is at the first entry with a key of at least "aa" at the time 2.
func prelude() []api.Op {
	return []api.Op{snap(1), open(2, 1), seek(2, "aa")}
}

// The thread of the prelude, and the time of its snapshot.
const (
	preludeThread = 1
	preludeTime   = 2
)

// preludePosition is where the prelude leaves the cursor.
var preludePosition = cursor.Position{Place: cursor.At, Key: "ab"}

// someMachines returns operations of all kinds that need an access.
func someMachines() []api.Op {
	return []api.Op{
		get("a"), get("ab"), get("x"), getAt("ab", 1), getAt("a", 3), getAt("a", 9), getAt("b", 0),
		apply(nil), write("b", "", "a", "9"), write("ab", "7", "aa", "6", "ac", "5", "ab", "8"), write("x", "", "y", ""),
		write("c", "1", "d", "2", "e", "3", "f", "4", "g", "5", "h", "6", "i", "7"),
		write("c1", "1", "c2", "2", "c3", "3", "c4", "4", "c5", "5", "c6", "6", "c7", "7", "c8", "8", "c9", "9"),
		snap(0), release(1), seek(2, "a"), seek(2, "ac"), move(2, api.MoveFirst), move(2, api.MoveLast), move(2, api.MoveNext),
		move(2, api.MovePrev), sweep(),
	}
}

// machineScene returns a database with a batch at the time 1, one at 2, at which the prelude is performed, and some after it, and a client
// that has performed the prelude and has still to perform an operation.
func machineScene(t *testing.T, op api.Op) (*database, *Client) {
	t.Helper()
	d := empty(t, small())
	d.apply(t, put("a", "1", "ab", "2"), put("b", "3", "b1", "4", "b2", "5", "b3", "6", "b4", "7"))
	c := d.client(t, preludeThread, append(prelude(), op)...)
	for c.Index() < len(prelude()) || c.Busy() {
		c.Step(d.m)
	}
	if c.Answer() != entry(preludeTime, preludePosition.Key, "2") {
		t.Fatalf("the test is wrong: the prelude ends with %v", c.Answer())
	}
	d.apply(t, put("b3", "", "a", "8", "ab", ""), put("b4", ""))
	return d, c
}

// lockstep performs the operation that is left with a client, and its machine on a copy of the database. Both make the same accesses. Before
// each step, disturb may change both memories. It returns the number of steps, and in how many of them the operation took effect.
func lockstep(t *testing.T, op api.Op, disturb func(d *database, step int)) (int, int) {
	t.Helper()
	d, c := machineScene(t, op)
	other := d.copy()
	x := other.rawOf(op)
	early := op.Code == api.OpApply || op.Code == api.OpVacuum
	effects := 0
	for n := range patience {
		disturb(d, n)
		disturb(other, n)
		marks := 0
		if x.marks != nil {
			marks = x.marks()
		}
		done := x.step(other.m)
		want := Event{Started: n == 0, Effect: done, Done: done}
		if x.marks != nil {
			want.Effect = x.marks() > marks
		}
		if want.Effect {
			effects++
		}
		if e := c.Step(d.m); e != want {
			t.Fatalf("P22.3: step %d of %v returns %v, want %v", n, op, e, want)
		}
		if d.m.Accesses() != other.m.Accesses() || !slices.Equal(d.cells(), other.cells()) {
			t.Fatalf("P22.3: step %d of %v is not that of its machine", n, op)
		}
		var answer api.Answer
		if done || early && effects > 0 {
			answer = x.answer()
		}
		if c.Busy() == done || c.Finished() != done || c.Index() != len(prelude())+1 || c.Answer() != answer {
			t.Fatalf("P22.5: after step %d of %v, a client is Busy %t, Finished %t, Index %d, Answer %v, want %v",
				n, op, c.Busy(), c.Finished(), c.Index(), c.Answer(), answer)
		}
		if done {
			return n + 1, effects
		}
	}
	t.Fatalf("P22.3: %v does not finish", op)
	return 0, 0
}

// calm changes nothing.
func calm(*database, int) {}

// P22.3, P22.4, P22.5: each operation makes the steps of its machine, and takes effect when that does.
func TestMachines(t *testing.T) {
	for _, op := range someMachines() {
		if n, effects := lockstep(t, op, calm); effects != 1 || n < 3 && op.Code != api.OpRelease && (op.Code != api.OpGetAt || op.Time < 9) {
			t.Errorf("P22.3: %v makes %d steps, and takes effect in %d of them", op, n, effects)
		}
	}
}

// P22.3: each operation, while a latch that it may meet is locked by somebody else, and its node is being changed, for a while.
func TestWaiting(t *testing.T) {
	const wait = 30
	waited := 0
	for _, op := range someMachines() {
		alone, _ := lockstep(t, op, calm)
		for begin := range alone {
			word, locked := uint64(0), false
			n, _ := lockstep(t, op, func(d *database, step int) {
				i := d.l.Latch(1)
				switch now := d.m.Peek(i).N; {
				case step == begin && now&3 == 0:
					word, locked = now, true
					d.set(i, now|3)
				case step == begin+wait && locked && now == word|3:
					d.set(i, word)
				}
			})
			if n >= begin+wait && n > alone {
				waited++
			}
		}
	}
	if waited < 50 {
		t.Errorf("the test does too little: %d operations have waited", waited)
	}
}

// P22.3: a Get that begins again takes effect again, as often as the floor has been raised above its time. The last time counts.
func TestBeginsAgain(t *testing.T) {
	const raises = 3
	for _, key := range []string{"a", "ab", "b4", "x"} {
		op := get(key)
		alone, _ := lockstep(t, op, calm)
		for begin := 1; begin < alone; begin++ {
			n, effects := lockstep(t, op, func(d *database, step int) {
				if step%alone == begin && step/alone < raises {
					time := d.published() + 1
					d.set(d.l.Published(), time)
					d.set(d.l.Floor(), time)
				}
			})
			if effects < 2 || effects > 1+raises || n <= alone {
				t.Errorf("P22.3: Get of %q makes %d steps, and takes effect %d times", key, n, effects)
			}
		}
	}
}

// P22.3, P22.5: a batch and a pass have their answer from the step on in which they take effect; a snapshot, which takes effect before its
// end, too, has it only then.
func TestEarlyAnswers(t *testing.T) {
	for _, x := range []struct {
		op    api.Op
		want  api.Answer
		early bool
	}{
		{write("c", "1"), at(5), true}, {apply(nil), at(5), false}, {sweep(), at(preludeTime), true}, {snap(0), at(4), false},
	} {
		d, c := machineScene(t, x.op)
		effect, early := false, 0
		for !c.Finished() {
			e := c.Step(d.m)
			effect = effect || e.Effect
			var want api.Answer
			if e.Done || effect && x.early {
				want = x.want
			}
			if effect && !e.Done {
				early++
			}
			if c.Answer() != want {
				t.Errorf("P22.5: of %v, Answer is %v, want %v", x.op, c.Answer(), want)
			}
		}
		if (early > 0) != (x.early || x.op.Code == api.OpSnapshot) {
			t.Errorf("P22.3: %v takes effect %d steps before it returns", x.op, early)
		}
	}
}

// P22.3, P22.5: a batch that fails takes effect before it returns, and has its answer from then on.
func TestEarlyFailures(t *testing.T) {
	for _, cell := range []string{"chains", "nodes", "records", "clock"} {
		d := empty(t, small())
		d.apply(t, put("a", "1", "b", "2", "c", "3", "d", "4"))
		c := d.l.Config()
		want := fails(api.ErrFull)
		switch cell {
		case "chains":
			d.set(d.l.Chains(), uint64(c.Chains))
		case "nodes":
			d.set(d.l.Nodes(), uint64(c.Nodes))
		case "records":
			d.set(d.l.Records(), uint64(c.Records-1))
		default:
			d.set(d.l.Allocated(), c.Clock)
			want = fails(api.ErrClock)
		}
		x := d.client(t, 0, write("b", "9", "e", "5"), get("b"))
		effects, early := 0, 0
		for x.Index() == 0 || x.Busy() {
			if x.Step(d.m).Effect {
				effects++
			}
			if effects > 0 && x.Busy() {
				early++
			}
			if (x.Answer() == want) != (effects > 0) {
				t.Fatalf("P22.5: without %s, it is %t that a batch has taken effect, and Answer is %v", cell, effects > 0, x.Answer())
			}
		}
		if effects != 1 || early < 1 {
			t.Errorf("P22.3: without %s, a batch takes effect %d times, %d steps before it returns", cell, effects, early)
		}
		if got := d.answers(t, x); got[0].Value != "2" {
			t.Errorf("P22.4: without %s, a batch that has failed leaves %v", cell, got[0])
		}
	}
}
