package client

import (
	"testing"

	"blinktree/api"
)

// expectEvery performs all programs that consist of the given operations and some more out of a list, and compares them with the model.
func expectEvery(t *testing.T, first, list []api.Op, length int) {
	t.Helper()
	total := 1
	for range length {
		total *= len(list)
	}
	start := empty(t, small())
	for n := range total {
		program := append([]api.Op(nil), first...)
		for k := n; len(program) < len(first)+length; k /= len(list) {
			program = append(program, list[k%len(list)])
		}
		a := newArena(t, start.copy(), program, nil)
		a.finish(t)
		a.judge(t, "P22.4")
	}
}

// P22.3, P22.4, P22.5: all programs of a few operations that concern snapshots and cursors.
func TestEveryHandle(t *testing.T) {
	list := []api.Op{
		snap(0), snap(1), release(0), release(1), open(0, 0), open(0, 1), open(7, 1), closing(0), closing(7), move(0, api.MoveNext),
	}
	expectEvery(t, nil, list, 4)
	expectEvery(t, []api.Op{write("a", "1"), snap(0), open(7, 0), write("a", "2")}, list, 4)
}

// P22.3, P22.4, P22.5: all programs of a few moves of two cursors.
func TestEveryMove(t *testing.T) {
	list := []api.Op{
		seek(0, ""), seek(0, "b"), seek(0, tooLong), move(0, api.MoveFirst), move(0, api.MoveLast), move(0, api.MoveNext), move(0, api.MovePrev),
		move(1, api.MoveNext), move(1, api.MovePrev), write("b", "3", "a", ""),
	}
	expectEvery(t, []api.Op{write("a", "1", "c", "2"), snap(1), open(0, 1), open(1, 1)}, list, 4)
	expectEvery(t, []api.Op{write("", "1", "a", "2"), snap(1), open(0, 1), snap(0), open(1, 0)}, list, 3)
}

// P22.3, P22.4, P22.5: all programs of a few operations of all other kinds.
func TestEveryKind(t *testing.T) {
	list := []api.Op{
		get("a"), getAt("a", 1), getAt("b", 2), get(tooLong), write("a", "1"), write("b", "2", "a", ""), write("a", "3", tooLong, ""), snap(0),
		release(0), sweep(),
	}
	expectEvery(t, nil, list, 4)
	expectEvery(t, []api.Op{write("a", "7", "b", "8", "c", "9", "d", "0", "e", "1"), snap(1)}, list, 3)
}
