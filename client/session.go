package client

import (
	"blinktree/api"
	"blinktree/batch"
	"blinktree/commit"
	"blinktree/cursor"
	"blinktree/keys"
	"blinktree/layout"
	"blinktree/read"
	"blinktree/registry"
	"blinktree/vacuum"
)

// session is what a thread keeps from one operation to the next: its snapshots and its cursors.
type session struct {
	l         layout.Layout
	thread    int
	snapshots [api.MaxSnapshots]snapshot // those from the configuration's Snapshots on are never opened
	cursors   [api.MaxCursors]place
}

// snapshot is a snapshot of the thread, with its timestamp while it is open. The timestamp may be 0.
type snapshot struct {
	open bool
	time uint64
}

// place is a cursor of the thread: the snapshot that it is on, which is open as long as the cursor is, and its position there.
type place struct {
	open     bool
	handle   int
	position cursor.Position
}

// newSession returns the session of a thread, in which nothing is open.
func newSession(l layout.Layout, thread int) *session { return &session{l: l, thread: thread} }

// start returns the task of an operation that is valid.
func (s *session) start(op api.Op) task {
	switch op.Code {
	case api.OpGet:
		return s.get(op.Key)
	case api.OpGetAt:
		return s.getAt(op.Key, op.Time)
	case api.OpApply:
		return s.apply(op.Batch)
	case api.OpSnapshot:
		return s.openSnapshot(op.Handle)
	case api.OpRelease:
		return s.releaseSnapshot(op.Handle)
	case api.OpOpen:
		return s.openCursor(op.Cursor, op.Handle)
	case api.OpMove:
		return s.moveCursor(op.Cursor, op.Move, op.Key)
	case api.OpClose:
		return s.closeCursor(op.Cursor)
	default: // api.OpVacuum
		return vacuum.NewPass(s.l)
	}
}

// get returns the task of a read of the present.
func (s *session) get(key string) task {
	if !keys.ValidKey(key) {
		return failed(api.ErrTooLarge)
	}
	return read.NewGet(s.l, key)
}

// getAt returns the task of a read at a time.
func (s *session) getAt(key string, time uint64) task {
	if !keys.ValidKey(key) {
		return failed(api.ErrTooLarge)
	}
	return read.NewGetAt(s.l, key, time)
}

// apply returns the task of a batch.
func (s *session) apply(b []api.Write) task {
	normal, err := batch.Normalize(b)
	if err != api.OK {
		return failed(err)
	}
	return commit.NewApply(s.l, normal)
}

// openSnapshot returns the task that opens a snapshot.
func (s *session) openSnapshot(handle int) task {
	if s.snapshots[handle].open {
		return failed(api.ErrOpen)
	}
	return &opening{registry.NewOpen(s.l, s.thread, handle), &s.snapshots[handle]}
}

// releaseSnapshot returns the task that releases a snapshot.
func (s *session) releaseSnapshot(handle int) task {
	if !s.snapshots[handle].open {
		return failed(api.ErrClosed)
	}
	return &releasing{machine: registry.NewRelease(s.l, s.thread, handle), session: s, handle: handle}
}

// close notes that a snapshot has been released, and closes the cursors on it. It returns the time of the snapshot.
func (s *session) close(handle int) uint64 {
	time := s.snapshots[handle].time
	s.snapshots[handle] = snapshot{}
	for i, c := range s.cursors {
		if c.open && c.handle == handle {
			s.cursors[i] = place{}
		}
	}
	return time
}

// openCursor opens a cursor on a snapshot, and returns the task that answers it.
func (s *session) openCursor(i, handle int) task {
	switch {
	case !s.snapshots[handle].open:
		return failed(api.ErrClosed)
	case s.cursors[i].open:
		return failed(api.ErrOpen)
	}
	s.cursors[i] = place{open: true, handle: handle, position: cursor.Position{Place: cursor.Before}}
	return known(api.Answer{Time: s.snapshots[handle].time})
}

// moveCursor returns the task that moves a cursor.
func (s *session) moveCursor(i, move int, key string) task {
	c := &s.cursors[i]
	switch {
	case !c.open:
		return failed(api.ErrClosed)
	case !keys.ValidKey(key):
		return failed(api.ErrTooLarge)
	}
	time := s.snapshots[c.handle].time
	return &moving{machine: cursor.NewMove(s.l, time, c.position, move, key), position: &c.position}
}

// closeCursor closes a cursor, and returns the task that answers it.
func (s *session) closeCursor(i int) task {
	c := s.cursors[i]
	if !c.open {
		return failed(api.ErrClosed)
	}
	s.cursors[i] = place{}
	return known(api.Answer{Time: s.snapshots[c.handle].time})
}
