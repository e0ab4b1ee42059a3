package client

import "blinktree/api"

// Valid reports whether an operation is valid: its code is a constant, the fields that are not for this code are zero, and the others are
// within their limits. A key, and the writes of a batch, may be anything: the answer tells what is wrong with them.
func Valid(c api.Config, op api.Op) bool {
	if !below(op.Handle, c.Snapshots) || !below(op.Cursor, api.MaxCursors) || !below(op.Move, api.MovePrev+1) {
		return false
	}
	// The fields that are for the code are made zero, so that nothing may be left.
	switch op.Code {
	case api.OpGet:
		op.Key = ""
	case api.OpGetAt:
		op.Key, op.Time = "", 0
	case api.OpApply:
		op.Batch = nil
	case api.OpSnapshot, api.OpRelease:
		op.Handle = 0
	case api.OpOpen:
		op.Cursor, op.Handle = 0, 0
	case api.OpMove:
		if op.Move == api.MoveSeek {
			op.Key = ""
		}
		op.Cursor, op.Move = 0, 0
	case api.OpClose:
		op.Cursor = 0
	case api.OpVacuum:
	default:
		return false
	}
	return blank(op)
}

// blank reports whether all fields of an operation but its code are zero.
func blank(op api.Op) bool {
	return op.Key == "" && op.Time == 0 && len(op.Batch) == 0 && op.Handle == 0 && op.Cursor == 0 && op.Move == 0
}

// below reports whether i is one of the numbers from 0 to n - 1.
func below(i, n int) bool { return i >= 0 && i < n }
