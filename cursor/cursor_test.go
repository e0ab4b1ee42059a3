package cursor

import (
	"slices"
	"strings"
	"testing"

	"blinktree/api"
)

// P20.1, P20.2: the example of the chapter, and moves from one position to the next in a small database.
func TestExample(t *testing.T) {
	d := of(t, put("b", "1", "d", "2"), put("x", "3"), put("x", ""))
	for _, p := range []Position{front, at("b"), at("c"), at("d"), back} {
		for _, time := range []uint64{1, 3} {
			for _, x := range []struct {
				move       int
				key, value string
				place      int
			}{
				{api.MoveSeek, "d", "2", At},
				{api.MovePrev, "b", "1", At},
				{api.MovePrev, "", "", Before},
				{api.MovePrev, "", "", Before},
				{api.MoveNext, "b", "1", At},
				{api.MoveNext, "d", "2", At},
				{api.MoveNext, "", "", After},
				{api.MoveNext, "", "", After},
				{api.MovePrev, "d", "2", At},
				{api.MoveFirst, "b", "1", At},
				{api.MoveLast, "d", "2", At},
				{77, "b", "1", At},
			} {
				v := NewMove(d.l, time, p, x.move, "c")
				d.finish(t, v)
				answer := api.Answer{Time: time, Key: x.key, Value: x.value}
				if x.place != At {
					answer = api.Answer{Err: api.ErrEnd, Time: time}
				}
				if v.Answer() != answer || v.Position() != (Position{x.place, x.key}) {
					t.Fatalf("P20.1, P20.2: move %d from %v ends with %v, %v", x.move, p, v.Answer(), v.Position())
				}
				p = v.Position()
			}
		}
	}
}

// The constants of the chapter.
func TestPlaces(t *testing.T) {
	if Before != 0 || At != 1 || After != 2 {
		t.Errorf("P20.1: the places are %d, %d and %d", Before, At, After)
	}
}

// P20.1, P20.2: all moves among the entries of some keys, the empty one and the longest one included, where some of the keys have no value.
func TestFewEntries(t *testing.T) {
	all := []string{"", "\x00", "a", "a\x00", longest()[:api.MaxKey-1], longest()}
	for present := range 1 << len(all) {
		var b, c []api.Write
		for i, key := range all {
			b = append(b, api.Write{Key: key, Value: "v" + key})
			if present>>i&1 == 0 {
				c = append(c, api.Write{Key: key, Delete: true})
			}
		}
		d := of(t, b, c)
		for time := range uint64(3) {
			for _, x := range newDice(present).tasks(time) {
				d.expect(t, "P20.1, P20.2", x)
			}
		}
	}
}

// times returns the floor, the present time, and some times between them.
func (d *database) times(g *dice) []uint64 {
	list := []uint64{d.floor(), d.published()}
	for range 3 {
		list = append(list, g.between(d.floor(), d.published()))
	}
	slices.Sort(list)
	return slices.Compact(list)
}

// P20.1, P20.2: all moves in generated databases, none of which changes a cell.
func TestMoves(t *testing.T) {
	ends, entries := 0, 0
	for seed := range 80 {
		g, d := newDice(seed), newDatabase(t, seed)
		cells := d.cells()
		for _, time := range d.times(g) {
			for _, x := range g.tasks(time) {
				if _, p := d.expect(t, "P20.1, P20.2", x); p.Place == At {
					entries++
				} else {
					ends++
				}
			}
		}
		if !slices.Equal(d.cells(), cells) {
			t.Fatal("P20.3: a move changes a cell")
		}
	}
	if ends < 5000 || entries < 20000 {
		t.Errorf("the test does too little: %d moves to an end, and %d to an entry", ends, entries)
	}
}

// P20.1: from one end to the other one and back, a cursor comes to each entry once.
func TestAllEntries(t *testing.T) {
	for seed := range 60 {
		g, d := newDice(seed), newDatabase(t, seed)
		for _, time := range d.times(g) {
			for _, way := range []struct {
				from, to Position
				move     int
			}{{front, back, api.MoveNext}, {back, front, api.MovePrev}} {
				var list []api.Entry
				p := way.from
				for range len(d.at(time)) + 1 {
					v := NewMove(d.l, time, p, way.move, "")
					d.finish(t, v)
					if p = v.Position(); p.Place == At {
						list = append(list, api.Entry{Key: v.Answer().Key, Value: v.Answer().Value})
					}
				}
				if way.move == api.MovePrev {
					slices.Reverse(list)
				}
				if p != way.to || !slices.Equal(list, d.at(time)) {
					t.Fatalf("P20.1: move %d again and again at %d goes over %v to %v, want %v", way.move, time, list, p, d.at(time))
				}
			}
		}
	}
}

// P20.1: at the time 0, and in an empty database, there are no entries.
func TestNoEntries(t *testing.T) {
	for _, d := range []*database{empty(t, small()), of(t, put("", "1", "a", "2")), of(t, put("a", "1"), put("a", ""))} {
		for _, x := range newDice(1).tasks(0) {
			if _, p := d.expect(t, "P20.1", x); p.Place == At {
				t.Errorf("P20.1: %v ends at %v", x, p)
			}
		}
	}
}

// P20.2: the moves that make no access, and the ones beside them that make some.
func TestStill(t *testing.T) {
	d := of(t, put("", "1", "a", "2"))
	for _, x := range []struct {
		p     Position
		moves []int
	}{
		{back, []int{api.MoveNext}},
		{front, append([]int{api.MovePrev}, otherMoves...)},
		{at(""), append([]int{api.MovePrev}, otherMoves...)},
	} {
		for _, move := range x.moves {
			accesses := d.m.Accesses()
			v := NewMove(d.l, 1, x.p, move, "a")
			want := front
			if x.p == back {
				want = back
			}
			if !v.Step(d.m) || d.m.Accesses() != accesses || v.Answer() != (api.Answer{Err: api.ErrEnd, Time: 1}) || v.Position() != want {
				t.Errorf("P20.2: move %d from %v ends with %v, %v", move, x.p, v.Answer(), v.Position())
			}
		}
	}
	for _, x := range []task{
		{1, back, api.MovePrev, ""}, {1, front, api.MoveNext, ""}, {1, at(""), api.MoveNext, ""}, {1, at("\x00"), api.MovePrev, ""},
		{1, back, api.MoveSeek, longest()}, {1, front, api.MoveLast, ""}, {1, back, api.MoveFirst, ""}, {1, back, 77, ""},
	} {
		if n, _ := d.expect(t, "P20.2", x); n < 6 {
			t.Errorf("P20.2: %v makes %d steps", x, n)
		}
	}
}

// P20.2: the time of the answer is that of the move, up to the greatest one. Entries at later times than Published are those of the present.
func TestTimes(t *testing.T) {
	d := of(t, put("a", "1"), put("a", "2", "b", "3"))
	for _, time := range []uint64{0, 1, 2, 3, api.MaxClock, 1 << 63, ^uint64(0)} {
		for _, x := range newDice(1).tasks(time) {
			d.expect(t, "P20.2", x)
		}
	}
}

// P20.1: a cursor can be at a key that has no value at the time, or none at all, and be moved to a key that no batch can write.
func TestStrangeKeys(t *testing.T) {
	d := of(t, put("a", "1", "c", "2"), put("a", ""))
	long := strings.Repeat("b", 1000)
	for _, key := range []string{"a", "b", "c\x00", long, "\xff" + long} {
		for _, x := range []task{{2, at(key), api.MoveNext, ""}, {2, at(key), api.MovePrev, ""}, {2, front, api.MoveSeek, key}} {
			d.expect(t, "P20.1", x)
		}
	}
}

// Rule 9: the key of a position at an end, which is empty, does not matter. Any other place counts as an entry with its key.
func TestStrangePositions(t *testing.T) {
	d := of(t, put("a", "1", "b", "2", "c", "3"))
	for _, x := range []struct {
		p          Position
		next, prev Position
	}{
		{Position{Before, "b"}, at("a"), front},
		{Position{After, "b"}, back, at("c")},
		{Position{3, "b"}, at("c"), at("a")},
		{Position{-1, "b"}, at("c"), at("a")},
		{Position{1 << 62, ""}, at("a"), front},
	} {
		for move, want := range map[int]Position{api.MoveNext: x.next, api.MovePrev: x.prev} {
			v := NewMove(d.l, 1, x.p, move, "")
			d.finish(t, v)
			if v.Position() != want {
				t.Errorf("P20.1: move %d from %v goes to %v, want %v", move, x.p, v.Position(), want)
			}
		}
	}
}
