package client

import (
	"blinktree/api"
	"blinktree/cursor"
	"blinktree/memory"
	"blinktree/registry"
)

// task is a machine that performs an operation: Get and GetAt of package read, Apply of package commit, Pass of package vacuum, or one of
// those below. Marks is the number of steps so far in which the operation took effect, as far as the task could know then.
type task interface {
	Step(m *memory.Memory) bool
	Answer() api.Answer
	Marks() int
}

// ending is the part of a task that has its answer, and takes effect, in its last step.
type ending struct {
	answer api.Answer
	marks  int
}

// end notes that the last step has been made.
func (e *ending) end(answer api.Answer) {
	e.answer = answer
	e.marks++
}

// Answer returns the answer, or a zero answer before the task has finished.
func (e *ending) Answer() api.Answer { return e.answer }

// Marks returns 1 if the task has finished, and 0 before that.
func (e *ending) Marks() int { return e.marks }

// knowing is the task of an operation whose answer is known without an access.
type knowing struct {
	ending
	known api.Answer
}

// known returns the task of an operation that has this answer.
func known(answer api.Answer) task { return &knowing{known: answer} }

// failed returns the task of an operation that fails without an access.
func failed(err api.Errno) task { return known(api.Answer{Err: err}) }

// Step makes no access, and is the last one.
func (k *knowing) Step(*memory.Memory) bool {
	k.end(k.known)
	return true
}

// opening is the task that opens a snapshot. It takes effect when the machine does.
type opening struct {
	*registry.Open
	snapshot *snapshot
}

// Step makes one access, and reports whether the snapshot is open.
func (o *opening) Step(m *memory.Memory) bool {
	finished := o.Open.Step(m)
	if finished {
		*o.snapshot = snapshot{open: true, time: o.Time()}
	}
	return finished
}

// Answer returns the timestamp of the snapshot, or a zero answer before it is open.
func (o *opening) Answer() api.Answer { return api.Answer{Time: o.Time()} }

// releasing is the task that releases a snapshot.
type releasing struct {
	ending
	machine *registry.Release
	session *session
	handle  int
}

// Step makes one access, and reports whether the snapshot has been released.
func (r *releasing) Step(m *memory.Memory) bool {
	finished := r.machine.Step(m)
	if finished {
		r.end(api.Answer{Time: r.session.close(r.handle)})
	}
	return finished
}

// moving is the task that moves a cursor.
type moving struct {
	ending
	machine  *cursor.Move
	position *cursor.Position
}

// Step makes at most one access, and reports whether the cursor has its new position.
func (v *moving) Step(m *memory.Memory) bool {
	finished := v.machine.Step(m)
	if finished {
		*v.position = v.machine.Position()
		v.end(v.machine.Answer())
	}
	return finished
}
