package record

import (
	"math"
	"slices"
	"testing"

	"blinktree/api"
)

// spare is a version behind the end of a chain that a test passes.
var spare = api.Version{Stamp: 1, Value: "behind the end", Delete: true}

// set returns a version with a value, and gone one with Delete.
func set(stamp uint64, value string) api.Version { return api.Version{Stamp: stamp, Value: value} }
func gone(stamp uint64) api.Version              { return api.Version{Stamp: stamp, Delete: true} }

// chain returns versions, and room behind them that nobody may write.
func chain(versions ...api.Version) []api.Version {
	all := append(make([]api.Version, 0, len(versions)+2), versions...)
	return append(all, spare, spare)[:len(versions)]
}

// whole returns a copy of a chain and of the room behind it.
func whole(l []api.Version) []api.Version { return slices.Clone(l[:cap(l)]) }

// expectUntouched reports an error if a chain or the room behind it is not what it was (rule 3).
func expectUntouched(t *testing.T, function string, l, was []api.Version) {
	t.Helper()
	if !slices.Equal(whole(l), was) {
		t.Fatalf("rule 3: %s modified its argument %v: %v", function, was, whole(l))
	}
}

// cut and times call the functions, and report an error if the argument changes, even if the caller overwrites the result
// afterwards. They return copies of the results.
func cut(t *testing.T, l []api.Version, floor uint64) []api.Version {
	t.Helper()
	was := whole(l)
	result := Cut(l, floor)
	kept := slices.Clone(result)
	for i := range result[:cap(result)] {
		result[:cap(result)][i] = api.Version{Stamp: 99, Value: "overwritten"}
	}
	expectUntouched(t, "Cut, or who overwrites its result,", l, was)
	return kept
}

func times(t *testing.T, l []api.Version) []uint64 {
	t.Helper()
	was := whole(l)
	result := Times(l)
	kept := slices.Clone(result)
	for i := range result {
		result[i] = 99
	}
	if again := Times(l); !slices.Equal(again, kept) {
		t.Fatalf("rule 9: Times of %v is %v, and then %v", was, kept, again)
	}
	expectUntouched(t, "Times", l, was)
	return kept
}

// P9.1
func TestCheckValid(t *testing.T) {
	for i, l := range [][]api.Version{
		nil,
		{},
		chain(set(1, "a")),
		chain(set(1, "")),
		chain(gone(1)),
		chain(set(0, "a")),
		chain(gone(0)),
		chain(set(7, "a"), set(4, "b"), set(2, "c")),
		chain(set(3, "a"), set(2, "a"), set(1, "a")),
		chain(set(0, "a"), set(4, "b"), gone(2)),
		chain(gone(0), gone(4), gone(2)),
		chain(gone(4), gone(3)),
		chain(set(0, "a"), set(math.MaxUint64, "b"), set(1, "c")),
		chain(set(math.MaxUint64, "a"), set(math.MaxUint64-1, "b")),
	} {
		if !Check(l) {
			t.Errorf("P9.1: row %d: %v is valid", i, l)
		}
	}
}

// P9.1
func TestCheckInvalid(t *testing.T) {
	for i, l := range [][]api.Version{
		chain(set(4, "a"), set(4, "b")),
		chain(set(2, "a"), set(4, "b")),
		chain(set(7, "a"), set(2, "b"), set(4, "c")),
		chain(set(7, "a"), set(4, "b"), set(4, "c")),
		chain(set(0, "a"), set(4, "b"), set(4, "c")),
		chain(set(0, "a"), set(2, "b"), set(4, "c")),
		chain(set(1, "a"), set(math.MaxUint64, "b")),
		chain(set(math.MaxUint64, "a"), set(math.MaxUint64, "b")),
		chain(set(4, "a"), set(0, "b")),
		chain(set(0, "a"), set(0, "b")),
		chain(set(0, "a"), set(4, "b"), set(0, "c")),
		chain(set(4, "a"), set(0, "b"), set(2, "c")),
		chain(set(4, "a"), set(0, "b"), set(5, "c")),
		chain(gone(4), gone(0)),
		chain(api.Version{Stamp: 1, Value: "a", Delete: true}),
		chain(api.Version{Value: "a", Delete: true}),
		chain(set(0, "a"), api.Version{Stamp: 1, Value: "\x00", Delete: true}),
		chain(set(4, "a"), set(3, "b"), api.Version{Stamp: 1, Value: "a", Delete: true}),
	} {
		if Check(l) {
			t.Errorf("P9.1: row %d: %v is not valid", i, l)
		}
	}
}

// P9.2
func TestVisible(t *testing.T) {
	const top = math.MaxUint64
	seven := chain(set(7, "g"), set(4, "d"), set(2, "b"))
	mixed := chain(set(0, "p"), set(7, ""), gone(4), set(2, "b"))
	disorder := chain(set(2, "b"), set(5, "e"), set(0, "p"), set(4, "d"), set(4, "D"), api.Version{Stamp: 1, Value: "x", Delete: true})
	for i, c := range []struct {
		l     []api.Version
		time  uint64
		want  api.Version
		ok    bool
		value string
		in    bool
	}{
		{seven, 5, set(4, "d"), true, "d", true}, // example 1
		{seven, 0, api.Version{}, false, "", false},
		{seven, 1, api.Version{}, false, "", false},
		{seven, 2, set(2, "b"), true, "b", true},
		{seven, 3, set(2, "b"), true, "b", true},
		{seven, 4, set(4, "d"), true, "d", true},
		{seven, 6, set(4, "d"), true, "d", true},
		{seven, 7, set(7, "g"), true, "g", true},
		{seven, 8, set(7, "g"), true, "g", true},
		{seven, top, set(7, "g"), true, "g", true},
		{mixed, 1, api.Version{}, false, "", false},
		{mixed, 3, set(2, "b"), true, "b", true},
		{mixed, 4, gone(4), true, "", false},
		{mixed, 6, gone(4), true, "", false},
		{mixed, 7, set(7, ""), true, "", true},
		{mixed, top, set(7, ""), true, "", true},
		{chain(set(top, "t"), set(1, "a")), top, set(top, "t"), true, "t", true},
		{chain(set(top, "t"), set(1, "a")), top - 1, set(1, "a"), true, "a", true},
		{nil, 9, api.Version{}, false, "", false},
		{chain(set(0, "p")), 0, api.Version{}, false, "", false},
		{chain(set(0, "p")), top, api.Version{}, false, "", false},
		{chain(gone(0)), top, api.Version{}, false, "", false},
		{disorder, 1, api.Version{Stamp: 1, Value: "x", Delete: true}, true, "", false},
		{disorder, 5, set(2, "b"), true, "b", true},
		{disorder[1:], 4, set(4, "d"), true, "d", true},
	} {
		if v, ok := Visible(c.l, c.time); v != c.want || ok != c.ok {
			t.Errorf("P9.2: row %d: Visible(%v, %d) is %v, %v", i, c.l, c.time, v, ok)
		}
		if s, in := Value(c.l, c.time); s != c.value || in != c.in {
			t.Errorf("P9.2: row %d: Value(%v, %d) is %q, %v", i, c.l, c.time, s, in)
		}
	}
}

// P9.3
func TestCut(t *testing.T) {
	const top = math.MaxUint64
	seven := chain(set(7, "g"), set(4, "d"), set(2, "b"))
	mixed := chain(set(0, "p"), gone(7), set(4, "d"), gone(2))
	for i, c := range []struct {
		l     []api.Version
		floor uint64
		kept  int
	}{
		{seven, 5, 2}, // example 1
		{seven, 1, 3}, // example 1
		{seven, 0, 3},
		{seven, 2, 3},
		{seven, 3, 3},
		{seven, 4, 2},
		{seven, 6, 2},
		{seven, 7, 1},
		{seven, top, 1},
		{mixed, 0, 4},
		{mixed, 2, 4},
		{mixed, 4, 3},
		{mixed, 7, 2},
		{mixed, top, 2},
		{nil, 0, 0},
		{nil, top, 0},
		{chain(set(0, "p")), top, 1},
		{chain(set(3, "c")), 2, 1},
		{chain(set(3, "c")), 3, 1},
		{chain(set(top, "t"), set(1, "a")), top, 1},
		{chain(set(top, "t"), set(1, "a")), top - 1, 2},
		{chain(set(2, "b"), set(5, "e"), set(1, "a")), 5, 1},
		{chain(set(5, "e"), set(0, "p"), set(0, "q"), set(2, "b"), set(1, "a")), 4, 4},
	} {
		if got := cut(t, c.l, c.floor); !slices.Equal(got, c.l[:c.kept]) {
			t.Errorf("P9.3: row %d: Cut(%v, %d) is %v", i, c.l, c.floor, got)
		}
	}
}

// P9.3
func TestDead(t *testing.T) {
	const top = math.MaxUint64
	for i, c := range []struct {
		l     []api.Version
		floor uint64
		want  bool
	}{
		{nil, 0, true},
		{[]api.Version{}, top, true},
		{chain(gone(3)), 3, true},
		{chain(gone(3)), 4, true},
		{chain(gone(3)), top, true},
		{chain(gone(3)), 2, false},
		{chain(gone(3)), 0, false},
		{chain(gone(top)), top, true},
		{chain(gone(top)), top - 1, false},
		{chain(gone(3), set(2, "b")), 3, true},
		{chain(gone(3), set(2, "b")), 2, false},
		{chain(gone(3), gone(2)), 2, false},
		{chain(set(3, "c")), 5, false},
		{chain(set(3, "")), 5, false},
		{chain(set(3, "c"), gone(2)), 5, false},
		{chain(gone(0)), 0, false},
		{chain(gone(0)), top, false},
		{chain(gone(0), gone(3)), 9, false},
		{chain(set(0, "p"), gone(3)), 9, false},
		{chain(set(0, "p")), 9, false},
		{chain(api.Version{Stamp: 3, Value: "x", Delete: true}), 3, true},
	} {
		if got := Dead(c.l, c.floor); got != c.want {
			t.Errorf("P9.3: row %d: Dead(%v, %d) is %v", i, c.l, c.floor, got)
		}
	}
}

// P9.5
func TestTimes(t *testing.T) {
	for i, c := range []struct {
		l    []api.Version
		want []uint64
	}{
		{nil, nil},
		{chain(set(0, "p")), nil},
		{chain(set(7, "g"), gone(4), set(2, "b")), []uint64{7, 4, 2}},
		{chain(set(0, "p"), set(7, "g"), gone(4)), []uint64{7, 4}},
		{chain(gone(math.MaxUint64)), []uint64{math.MaxUint64}},
		{chain(set(2, "b"), set(0, "p"), set(5, "e"), gone(5), gone(0), set(1, "a")), []uint64{2, 5, 5, 1}},
	} {
		if got := times(t, c.l); !slices.Equal(got, c.want) {
			t.Errorf("P9.5: row %d: Times(%v) is %v", i, c.l, got)
		}
	}
}
