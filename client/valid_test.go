package client

import (
	"math"
	"slices"
	"testing"

	"blinktree/api"
)

// fields says which fields an operation with a code has, by the table of P22.1.
var fields = map[int][]string{
	api.OpGet:      {"Key"},
	api.OpGetAt:    {"Key", "Time"},
	api.OpApply:    {"Batch"},
	api.OpSnapshot: {"Handle"},
	api.OpRelease:  {"Handle"},
	api.OpOpen:     {"Cursor", "Handle"},
	api.OpMove:     {"Cursor", "Move", "Key"},
	api.OpClose:    {"Cursor"},
	api.OpVacuum:   {},
}

// used returns the fields of an operation that are not zero.
func used(op api.Op) []string {
	var list []string
	for _, f := range []struct {
		name string
		used bool
	}{
		{"Key", op.Key != ""}, {"Time", op.Time != 0}, {"Batch", len(op.Batch) > 0},
		{"Handle", op.Handle != 0}, {"Cursor", op.Cursor != 0}, {"Move", op.Move != 0},
	} {
		if f.used {
			list = append(list, f.name)
		}
	}
	return list
}

// wantValid reports whether an operation is valid, by P22.1 word for word.
func wantValid(c api.Config, op api.Op) bool {
	listed, constant := fields[op.Code]
	if !constant {
		return false
	}
	for _, name := range used(op) {
		if !slices.Contains(listed, name) {
			return false
		}
	}
	switch {
	case op.Handle < 0 || op.Handle >= c.Snapshots:
		return false
	case op.Cursor < 0 || op.Cursor >= api.MaxCursors:
		return false
	case op.Move < api.MoveSeek || op.Move > api.MovePrev:
		return false
	}
	return op.Code != api.OpMove || op.Key == "" || op.Move == api.MoveSeek
}

// someOps calls a function with operations of all codes, whose fields have all combinations of some values, inside and outside of their
// limits.
func someOps(call func(op api.Op)) {
	numbers := []int{-1, 0, 1, 2, 3, 4, 5, 7, 8, math.MinInt, math.MaxInt}
	batches := [][]api.Write{nil, {}, {{}}, make([]api.Write, 99)}
	for code := -1; code <= 11; code++ {
		for _, key := range []string{"", "k", tooLong} {
			for _, time := range []uint64{0, 1, 1 << 63} {
				for _, b := range batches {
					for _, handle := range numbers {
						for _, cursor := range numbers {
							for _, move := range numbers {
								call(api.Op{Code: code, Key: key, Time: time, Batch: b, Handle: handle, Cursor: cursor, Move: move})
							}
						}
					}
				}
			}
		}
	}
}

// P22.1: operations with all combinations of some values of the fields, for several numbers of snapshots.
func TestValid(t *testing.T) {
	for _, snapshots := range []int{1, 2, 8} {
		c := small()
		c.Snapshots = snapshots
		valid := map[int]int{}
		someOps(func(op api.Op) {
			want := wantValid(c, op)
			if Valid(c, op) != want {
				t.Fatalf("P22.1: %d snapshots: of %v, Valid is %t", snapshots, op, !want)
			}
			if want {
				valid[op.Code]++
			}
		})
		if len(valid) != len(fields) {
			t.Errorf("the test does too little: %v operations are valid", valid)
		}
	}
}

// P22.1: each field alone, at its limits and beyond them.
func TestValidFields(t *testing.T) {
	for code := range fields {
		for _, op := range []api.Op{
			{}, {Key: "\x00"}, {Key: longest}, {Key: tooLong}, {Time: 1}, {Time: math.MaxUint64}, {Batch: []api.Write{}}, {Batch: put("a", "")},
			{Batch: []api.Write{{Key: tooLong}}}, {Batch: []api.Write{{Value: "v", Delete: true}}}, {Handle: -1}, {Handle: 1}, {Handle: 2},
			{Cursor: -1}, {Cursor: 1}, {Cursor: api.MaxCursors - 1}, {Cursor: api.MaxCursors}, {Move: -1}, {Move: api.MoveFirst},
			{Move: api.MovePrev}, {Move: api.MovePrev + 1}, {Move: api.MoveLast, Key: "k"}, {Move: api.MovePrev, Key: "k"}, {Move: math.MaxInt},
		} {
			op.Code = code
			if Valid(small(), op) != wantValid(small(), op) {
				t.Errorf("P22.1: of %v, Valid is %t", op, Valid(small(), op))
			}
		}
	}
	for _, code := range []int{math.MinInt, -1, 0, 10, 11, math.MaxInt} {
		if Valid(small(), api.Op{Code: code}) {
			t.Errorf("P22.1: the code %d is valid", code)
		}
	}
}

// P22.1, rule 1: configurations that are not valid. Of them, only Snapshots matters.
func TestValidConfig(t *testing.T) {
	for _, snapshots := range []int{math.MinInt, -1, 0, 1, 9, math.MaxInt} {
		c := api.Config{Snapshots: snapshots}
		for code := range fields {
			for _, handle := range []int{0, 1, 8, 9, math.MaxInt - 1, math.MaxInt} {
				op := api.Op{Code: code, Handle: handle}
				if Valid(c, op) != wantValid(c, op) {
					t.Errorf("P22.1: %d snapshots: of %v, Valid is %t", snapshots, op, Valid(c, op))
				}
			}
		}
	}
}

// Rule 3: Valid does not change the batch.
func TestValidKeeps(t *testing.T) {
	b := put("b", "1", "a", "2", "b", "")
	if !Valid(small(), apply(b)) || !slices.Equal(b, put("b", "1", "a", "2", "b", "")) {
		t.Error("rule 3: Valid changes the batch")
	}
}
