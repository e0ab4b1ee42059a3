package client

import (
	"slices"
	"testing"

	"blinktree/api"
	"blinktree/batch"
	"blinktree/model"
)

// name names a snapshot or a cursor: its thread and its number there.
type name struct{ thread, number int }

// mark is an open cursor: its snapshot, and the entry before which it is, or, if on is true, at which it is. Before the first entry, index is
// 0, and after the last one it is the number of entries.
type mark struct {
	handle, index int
	on            bool
}

// judge performs operations one after the other on the sequential model, and says what they have to answer, by P22.4.
type judge struct {
	m         *model.Model
	snapshots map[name]uint64
	cursors   map[name]mark
}

// newJudge returns a judge of a database to which some batches have been applied, and nothing else has happened.
func newJudge(past [][]api.Write) *judge {
	j := &judge{m: model.New(), snapshots: map[name]uint64{}, cursors: map[name]mark{}}
	for _, b := range past {
		j.m.Apply(b)
	}
	return j
}

// perform performs an operation, and returns what it has to answer. If it has answered that something is missing, this is believed, and so
// is the watermark of a pass if it is possible.
func (j *judge) perform(t *testing.T, thread int, op api.Op, answer api.Answer) api.Answer {
	switch op.Code {
	case api.OpGet:
		return j.value(op.Key, j.m.Time())
	case api.OpGetAt:
		return j.valueAt(op.Key, op.Time)
	case api.OpApply:
		return j.apply(op.Batch, answer.Err)
	case api.OpVacuum:
		if !j.m.Raise(answer.Time) {
			t.Fatalf("P22.4: a pass answers %v, and the watermark is %d", answer, j.m.Watermark())
		}
		return at(answer.Time)
	case api.OpSnapshot:
		return j.open(thread, op.Handle)
	case api.OpRelease:
		return j.release(thread, op.Handle)
	}
	return j.withCursor(thread, op)
}

// value returns the answer that the value of a key at a time is.
func (j *judge) value(key string, time uint64) api.Answer {
	value, ok := j.m.Get(key, time)
	switch {
	case len(key) > api.MaxKey:
		return fails(api.ErrTooLarge)
	case !ok:
		return none(time, key)
	}
	return entry(time, key, value)
}

// valueAt returns the answer of a read at a time.
func (j *judge) valueAt(key string, time uint64) api.Answer {
	switch {
	case len(key) > api.MaxKey:
		return fails(api.ErrTooLarge)
	case time > j.m.Time():
		return fails(api.ErrFuture)
	case time < j.m.Floor():
		return fails(api.ErrVacuumed)
	}
	return j.value(key, time)
}

// apply applies a batch, unless it is not valid or something has been missing.
func (j *judge) apply(b []api.Write, err api.Errno) api.Answer {
	if wrong := batch.Check(b); wrong != api.OK {
		return fails(wrong)
	}
	if err == api.ErrFull || err == api.ErrClock {
		return fails(err)
	}
	return at(j.m.Apply(b))
}

// open opens a snapshot.
func (j *judge) open(thread, handle int) api.Answer {
	if _, is := j.snapshots[name{thread, handle}]; is {
		return fails(api.ErrOpen)
	}
	j.snapshots[name{thread, handle}] = j.m.Open(thread, handle)
	return at(j.m.Time())
}

// release releases a snapshot, and closes the cursors on it.
func (j *judge) release(thread, handle int) api.Answer {
	time, is := j.snapshots[name{thread, handle}]
	if !is {
		return fails(api.ErrClosed)
	}
	j.m.Release(thread, handle)
	delete(j.snapshots, name{thread, handle})
	for i := range api.MaxCursors {
		if c, is := j.cursors[name{thread, i}]; is && c.handle == handle {
			delete(j.cursors, name{thread, i})
		}
	}
	return at(time)
}

// withCursor opens, moves or closes a cursor.
func (j *judge) withCursor(thread int, op api.Op) api.Answer {
	cursor := name{thread, op.Cursor}
	c, is := j.cursors[cursor]
	if op.Code == api.OpOpen {
		time, live := j.snapshots[name{thread, op.Handle}]
		switch {
		case !live:
			return fails(api.ErrClosed)
		case is:
			return fails(api.ErrOpen)
		}
		j.cursors[cursor] = mark{handle: op.Handle}
		return at(time)
	}
	time := j.snapshots[name{thread, c.handle}]
	switch {
	case !is:
		return fails(api.ErrClosed)
	case op.Code == api.OpClose:
		delete(j.cursors, cursor)
		return at(time)
	case len(op.Key) > api.MaxKey:
		return fails(api.ErrTooLarge)
	}
	list := j.m.List(time)
	c = c.moved(list, op.Move, op.Key)
	j.cursors[cursor] = c
	if !c.on {
		return end(time)
	}
	return entry(time, list[c.index].Key, list[c.index].Value)
}

// moved returns where a cursor is after a move among some entries, by P20.1.
func (c mark) moved(list []api.Entry, move int, key string) mark {
	switch move {
	case api.MoveSeek:
		c.index = slices.IndexFunc(list, func(e api.Entry) bool { return e.Key >= key })
		if c.index < 0 {
			c.index = len(list)
		}
	case api.MoveFirst:
		c.index = 0
	case api.MoveLast:
		c.index = len(list) - 1
	case api.MoveNext:
		if c.on {
			c.index++
		}
	default:
		c.index--
	}
	c.on = c.index >= 0 && c.index < len(list)
	c.index = max(c.index, 0)
	return c
}
