package client

import (
	"cmp"
	"slices"
	"testing"

	"blinktree/api"
)

// watcher makes the steps of a client, and checks what is true of each of them.
type watcher struct {
	c       *Client
	program []api.Op
	records []*api.Record // of the operations that have been started, in their order
	busy    bool
	answer  api.Answer // what the client has to answer until its next step
}

// now returns the record of the operation in progress, or of the last one.
func (w *watcher) now() *api.Record { return w.records[len(w.records)-1] }

// left reports whether a step has an effect.
func (w *watcher) left() bool { return w.busy || len(w.records) < len(w.program) }

// expectState reports an error if a client does not say what P22.5 says.
func (w *watcher) expectState(t *testing.T) {
	if w.c.Busy() != w.busy || w.c.Finished() == w.left() || w.c.Index() != len(w.records) {
		t.Fatalf("P22.5: after %d of %d operations, of which it is %t that one is in progress, a client is Busy %t, Finished %t, Index %d",
			len(w.records), len(w.program), w.busy, w.c.Busy(), w.c.Finished(), w.c.Index())
	}
	if w.c.Answer() != w.answer {
		t.Fatalf("P22.5: after %d operations, Answer is %v, want %v", len(w.records), w.c.Answer(), w.answer)
	}
}

// arena is a database and a client for each of its threads.
type arena struct {
	*database
	watchers []*watcher
	records  []*api.Record // in the order in which they were invoked
	picks    int
}

// newArena returns an arena with a program for each thread.
func newArena(t *testing.T, d *database, programs ...[]api.Op) *arena {
	t.Helper()
	a := &arena{database: d}
	for thread, program := range programs {
		a.watchers = append(a.watchers, &watcher{c: d.client(t, thread, program...), program: program})
	}
	return a
}

// pick makes a step of a thread, by P22.3.
func (a *arena) pick(t *testing.T, thread int) Event {
	w := a.watchers[thread]
	w.expectState(t)
	left, busy, accesses := w.left(), w.busy, a.m.Accesses()
	e := w.c.Step(a.m)
	n := a.m.Accesses() - accesses
	switch {
	case !left && (e != Event{} || n > 0):
		t.Fatalf("P22.3: a step after the end returns %v, and makes %d accesses", e, n)
	case left && e.Started == busy:
		t.Fatalf("P22.3: it is %t that an operation is in progress, and %t that one is started", busy, e.Started)
	case n > 1 || n == 0 && e != Event{Started: left, Effect: left, Done: left}:
		t.Fatalf("P22.3: a step that returns %v makes %d accesses", e, n)
	}
	if left {
		a.note(t, thread, e)
	}
	a.picks++
	w.expectState(t)
	return e
}

// note notes what a step has done.
func (a *arena) note(t *testing.T, thread int, e Event) {
	w := a.watchers[thread]
	if e.Started {
		i := len(w.records)
		r := &api.Record{Thread: thread, Index: i, Invoke: a.picks, Point: -1, Response: -1, Op: w.program[i]}
		w.records, a.records = append(w.records, r), append(a.records, r)
	}
	r := w.now()
	early := r.Op.Code == api.OpApply || r.Op.Code == api.OpVacuum
	switch {
	case e.Effect && r.Point >= 0 && r.Op.Code != api.OpGet:
		t.Fatalf("P22.3: %v takes effect twice", r.Op)
	case e.Effect && (early || e.Done) || e.Done && !early:
		r.Answer = w.c.Answer()
	}
	if e.Effect {
		r.Point = a.picks
	}
	if e.Done {
		r.Response = a.picks
	}
	if e.Done && r.Point < 0 {
		t.Fatalf("P22.3: %v has returned and has not taken effect", r.Op)
	}
	w.busy, w.answer = !e.Done, r.Answer
}

// judge performs the operations that have taken effect in the order of their points, and reports an error if one of them has another answer
// than the model. Operations in progress have none, unless they are batches or passes.
func (a *arena) judge(t *testing.T, promise string) {
	t.Helper()
	j := newJudge(a.past)
	list := slices.DeleteFunc(slices.Clone(a.records), func(r *api.Record) bool { return r.Point < 0 })
	slices.SortFunc(list, func(r, s *api.Record) int { return cmp.Compare(r.Point, s.Point) })
	for _, r := range list {
		want := j.perform(t, r.Thread, r.Op, r.Answer)
		early := r.Op.Code == api.OpApply || r.Op.Code == api.OpVacuum
		if (r.Response >= 0 || early) && r.Answer != want {
			t.Fatalf("%s: operation %d of thread %d, %v, answers %v, want %v", promise, r.Index, r.Thread, r.Op, r.Answer, want)
		}
	}
	a.expectCells(t, j)
}

// expectCells reports an error if the cells of the snapshots, of the clock or of the floor are not those of the model. Nothing is said of
// what is in progress.
func (a *arena) expectCells(t *testing.T, j *judge) {
	for thread, w := range a.watchers {
		for handle := range a.l.Config().Snapshots {
			var want uint64
			if time, is := j.snapshots[name{thread, handle}]; is {
				want = time + 1
			}
			if n := a.m.Peek(a.l.Snapshot(thread, handle)).N; n != want && !w.busy {
				t.Fatalf("P22.4: the cell of snapshot %d of thread %d contains %d, want %d", handle, thread, n, want)
			}
		}
	}
	if a.published() != j.m.Time() || a.m.Peek(a.l.Floor()).N != j.m.Floor() {
		t.Fatalf("P22.3: Published is %d, and %d batches have taken effect, or the floor is not %d", a.published(), j.m.Time(), j.m.Floor())
	}
}

// working returns the threads that have not finished.
func (a *arena) working() []int {
	var list []int
	for thread, w := range a.watchers {
		if w.left() {
			list = append(list, thread)
		}
	}
	return list
}

// finish picks all threads in turn until they have finished.
func (a *arena) finish(t *testing.T) {
	t.Helper()
	for range patience {
		for _, thread := range a.working() {
			a.pick(t, thread)
		}
		if len(a.working()) == 0 {
			return
		}
	}
	t.Fatal("P22.3: the clients wait for each other")
}
