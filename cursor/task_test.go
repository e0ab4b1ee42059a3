package cursor

import (
	"strings"
	"testing"

	"blinktree/api"
)

// task is a move from a position.
type task struct {
	time uint64
	p    Position
	move int
	key  string
}

// start begins the move.
func (x task) start(d *database) *Move { return NewMove(d.l, x.time, x.p, x.move, x.key) }

// at returns the position at an entry.
func at(key string) Position { return Position{Place: At, Key: key} }

// The positions at the ends.
var (
	front = Position{Place: Before}
	back  = Position{Place: After}
)

// indexFrom returns the index of the first entry whose key is at least key, which is the number of those whose keys are less.
func indexFrom(list []api.Entry, key string) int {
	n := 0
	for _, e := range list {
		if e.Key < key {
			n++
		}
	}
	return n
}

// target returns the index of the entry to which the move goes, by P20.1: -1 stands for Before, and the number of entries for After.
func (x task) target(list []api.Entry) int {
	switch {
	case x.move == api.MoveSeek:
		return indexFrom(list, x.key)
	case x.move == api.MoveFirst || x.move == api.MoveNext && x.p.Place == Before:
		return 0
	case x.move == api.MoveNext && x.p.Place == After:
		return len(list)
	case x.move == api.MoveNext:
		return indexFrom(list, x.p.Key+"\x00")
	case x.move == api.MoveLast || x.p.Place == After:
		return len(list) - 1
	case x.p.Place == Before:
		return -1
	}
	return indexFrom(list, x.p.Key) - 1
}

// wanted returns the answer and the new position, where the list is the entries at the time.
func (x task) wanted(list []api.Entry) (api.Answer, Position) {
	i := x.target(list)
	switch {
	case i < 0:
		return api.Answer{Err: api.ErrEnd, Time: x.time}, front
	case i == len(list):
		return api.Answer{Err: api.ErrEnd, Time: x.time}, back
	}
	return api.Answer{Time: x.time, Key: list[i].Key, Value: list[i].Value}, at(list[i].Key)
}

// still reports whether the move makes no access, by P20.2.
func (x task) still() bool {
	switch {
	case x.move == api.MoveSeek || x.move == api.MoveFirst || x.move == api.MoveLast:
		return false
	case x.move == api.MoveNext:
		return x.p.Place == After
	}
	return x.p == front || x.p == at("")
}

// step makes a step of a move that has not finished, which must be one access, or none if it is still, and reports whether it has finished.
// There is an answer only then.
func (d *database) step(t *testing.T, v *Move, still bool) bool {
	accesses, want := d.m.Accesses(), uint64(1)
	if still {
		want = 0
	}
	finished := v.Step(d.m)
	if n := d.m.Accesses() - accesses; n != want || still && !finished {
		t.Fatalf("P2.4, P20.2: %d accesses in one step, want %d, and it is %t that the move has finished", n, want, finished)
	}
	// The answer of a move that has finished is never zero: at the time 0 there are no entries.
	if finished == (v.Answer() == api.Answer{}) || !finished && v.Position() != (Position{}) {
		t.Fatalf("P2.4: the results are %v, %v, and it is %t that the move has finished", v.Answer(), v.Position(), finished)
	}
	return finished
}

// steps makes some steps of a move that is not still, and reports whether it has finished.
func (d *database) steps(t *testing.T, v *Move, n int) bool {
	t.Helper()
	for range n {
		if d.step(t, v, false) {
			return true
		}
	}
	return false
}

// run makes all steps of a move that has begun, and returns their number. Its results must be the right ones.
func (d *database) run(t *testing.T, promise string, x task, v *Move) int {
	t.Helper()
	for n := range patience {
		if d.step(t, v, x.still()) {
			d.expectFinished(t, promise, x, v)
			return n + 1
		}
	}
	t.Fatalf("%s: %v does not finish", promise, x)
	return 0
}

// expect makes a move, and returns the number of its steps and its new position.
func (d *database) expect(t *testing.T, promise string, x task) (int, Position) {
	t.Helper()
	v := x.start(d)
	if v.Answer() != (api.Answer{}) || v.Position() != (Position{}) {
		t.Fatalf("P2.4: before the first step, the results are %v, %v", v.Answer(), v.Position())
	}
	n := d.run(t, promise, x, v)
	return n, v.Position()
}

// expectFinished makes three more steps of a move that has finished, which must be no accesses, and do not change the results.
func (d *database) expectFinished(t *testing.T, promise string, x task, v *Move) {
	t.Helper()
	answer, p := x.wanted(d.at(x.time))
	accesses := d.m.Accesses()
	for range 3 {
		if v.Answer() != answer || v.Position() != p {
			t.Fatalf("%s: %v ends with %v, %v, want %v, %v", promise, x, v.Answer(), v.Position(), answer, p)
		}
		if !v.Step(d.m) {
			t.Fatal("P2.4: a finished machine says that it has not finished")
		}
	}
	if d.m.Accesses() != accesses {
		t.Fatal("P2.4: a step of a finished machine makes an access")
	}
}

// otherMoves are values of move that are no constants.
var otherMoves = []int{-1, 5, 77, -1 << 63, 1<<63 - 1}

// tasks returns moves of all kinds at a time: from all positions, and to all keys. What does not matter to a move seems random.
func (g *dice) tasks(time uint64) []task {
	all := keysToTry()
	anywhere := func() Position {
		return []Position{front, back, at(oneOf(g, all))}[g.roll(3)]
	}
	var list []task
	for range 3 {
		list = append(list, task{time, anywhere(), api.MoveFirst, oneOf(g, all)}, task{time, anywhere(), api.MoveLast, oneOf(g, all)})
	}
	positions := []Position{front, back}
	for _, key := range all {
		list = append(list, task{time, anywhere(), api.MoveSeek, key})
		positions = append(positions, at(key))
	}
	for _, p := range positions {
		list = append(list, task{time, p, api.MoveNext, oneOf(g, all)}, task{time, p, api.MovePrev, oneOf(g, all)})
		if g.roll(8) == 0 {
			list = append(list, task{time, p, oneOf(g, otherMoves), strings.Repeat("a", g.roll(4))})
		}
	}
	return list
}
