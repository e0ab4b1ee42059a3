package model

import (
	"math"
	"slices"
	"testing"

	"blinktree/api"
)

// P21.3: the timestamps of all open snapshots, each as often as it occurs.
func TestSnapshots(t *testing.T) {
	m := New()
	step := func(what string, time uint64, all []uint64, watermark uint64) {
		t.Helper()
		if got := m.Snapshots(); !slices.Equal(got, all) || m.Watermark() != watermark || m.Time() != time {
			t.Fatalf("P21.3: %s: snapshots %v, watermark %d, time %d; not %v, %d, %d", what, got, m.Watermark(), m.Time(), all, watermark, time)
		}
	}
	if m.Open(3, 1) != 0 {
		t.Error("P21.3: Open before the first batch")
	}
	step("one at 0", 0, []uint64{0}, 0)
	m.Apply(put("a", "1"))
	step("a batch", 1, []uint64{0}, 0)
	if m.Open(1, 3) != 1 || m.Open(2, 3) != 1 {
		t.Error("P21.3: Open after one batch")
	}
	step("three", 1, []uint64{0, 1, 1}, 0)
	m.Apply(put("a", "2"))
	if m.Open(3, 0) != 2 {
		t.Error("P21.3: Open after two batches")
	}
	step("four", 2, []uint64{0, 1, 1, 2}, 0)
	m.Release(1, 3)
	step("one of two equal ones released", 2, []uint64{0, 1, 2}, 0)
	m.Release(1, 3)
	step("released again", 2, []uint64{0, 1, 2}, 0)
	m.Release(0, 0)
	step("one that was never open", 2, []uint64{0, 1, 2}, 0)
	if m.Open(3, 1) != 2 {
		t.Error("P21.3: Open of an open one")
	}
	step("in place of the one at 0", 2, []uint64{1, 2, 2}, 1)
	if m.Open(3, 1) != 2 {
		t.Error("P21.3: Open of an open one at the same time")
	}
	step("in place of itself", 2, []uint64{1, 2, 2}, 1)
	m.Release(2, 3)
	step("the last one at 1", 2, []uint64{2, 2}, 2)
	m.Apply(nil)
	step("a third batch", 3, []uint64{2, 2}, 2)
	m.Release(3, 1)
	m.Release(3, 0)
	step("all", 3, nil, 3)
	if m.Open(3, 1) != 3 {
		t.Error("P21.3: Open of one that has been released")
	}
	step("again", 3, []uint64{3}, 3)
}

// P21.3: a thread and a number name a snapshot, and nothing else does.
func TestNames(t *testing.T) {
	numbers := []int{0, 1, 2, 10, 11, 64, 255, 256, -1, -2, 1 << 16, 1 << 32, math.MaxInt, math.MinInt}
	m := New()
	var want []uint64
	for _, thread := range numbers {
		for _, j := range numbers {
			if got := m.Open(thread, j); got != m.Time() {
				t.Fatalf("P21.3: Open(%d, %d) at %d is %d", thread, j, m.Time(), got)
			}
			want = append(want, m.Time())
			if !slices.Equal(m.Snapshots(), want) {
				t.Fatalf("P21.3: after Open(%d, %d), the snapshots are %v", thread, j, m.Snapshots())
			}
			m.Apply(nil)
		}
	}
	for _, thread := range numbers {
		for _, j := range numbers {
			m.Release(thread, j)
			want = want[1:]
			if !slices.Equal(m.Snapshots(), want) {
				t.Fatalf("P21.3: after Release(%d, %d), the snapshots are %v", thread, j, m.Snapshots())
			}
		}
	}
}

// P21.2, P21.3: snapshots do not matter to the entries, nor later batches to a snapshot.
func TestSnapshotOnly(t *testing.T) {
	x := newPair()
	for i := range 12 {
		x.apply(t, put("a", string(rune('a'+i)), "b", "-"))
		x.open(t, i%3, i%2)
		x.expectAll(t, []string{"a", "b"})
		if i%4 == 3 {
			x.release(i%3, 0)
			x.expectAll(t, []string{"a", "b"})
		}
	}
}

// P21.4, and the first example of the chapter.
func TestRaise(t *testing.T) {
	for i, c := range []struct {
		batches int
		open    uint64 // a snapshot is opened at this time, if there is one
		raise   []uint64
		want    []bool
		floor   uint64
	}{
		{2, 9, []uint64{1}, []bool{true}, 1},
		{0, 9, []uint64{0}, []bool{true}, 0},
		{0, 9, []uint64{1}, []bool{false}, 0},
		{0, 0, []uint64{0, 1}, []bool{true, false}, 0},
		{3, 9, []uint64{3}, []bool{true}, 3},
		{3, 9, []uint64{4}, []bool{false}, 0},
		{3, 9, []uint64{2, 4}, []bool{true, false}, 2},
		{3, 9, []uint64{2, 1}, []bool{true, true}, 2},
		{3, 9, []uint64{2, 0, 2, 3, 1}, []bool{true, true, true, true, true}, 3},
		{3, 9, []uint64{1<<64 - 1, 1 << 63, 1 << 40}, []bool{false, false, false}, 0},
		{3, 2, []uint64{3}, []bool{false}, 0},
		{3, 2, []uint64{2}, []bool{true}, 2},
		{3, 2, []uint64{1, 3, 2, 3, 0}, []bool{true, false, true, false, true}, 2},
		{3, 0, []uint64{1}, []bool{false}, 0},
		{3, 0, []uint64{0}, []bool{true}, 0},
		{3, 3, []uint64{3}, []bool{true}, 3},
		{3, 3, []uint64{4}, []bool{false}, 0},
	} {
		m := New()
		for time := range uint64(c.batches + 1) {
			if time > 0 {
				m.Apply(put("a", "1"))
			}
			if time == c.open {
				m.Open(0, 0)
			}
		}
		var got []bool
		for _, w := range c.raise {
			got = append(got, m.Raise(w))
		}
		if !slices.Equal(got, c.want) || m.Floor() != c.floor {
			t.Errorf("P21.4: row %d: Raise is %v, and the floor %d", i, got, m.Floor())
		}
	}
}

// P21.3, P21.4: the floor stays when snapshots come and go, and alters neither the watermark nor the past.
func TestFloorOnly(t *testing.T) {
	x := newPair()
	x.apply(t, put("a", "1"))
	x.apply(t, put("a", "2", "b", "1"))
	x.apply(t, put("a", "-"))
	if !x.raise(t, 3) {
		t.Error("P21.4: Raise to the present time")
	}
	x.expectAll(t, []string{"a", "b"})
	x.open(t, 0, 0)
	x.apply(t, put("a", "4"))
	if x.raise(t, 4) || !x.raise(t, 3) || !x.raise(t, 0) {
		t.Error("P21.4: Raise with a snapshot at the floor")
	}
	x.expectAll(t, []string{"a", "b"})
	x.release(0, 0)
	if x.m.Floor() != 3 || !x.raise(t, 4) || x.m.Floor() != 4 {
		t.Error("P21.4: Raise after the snapshot was released")
	}
	x.expectAll(t, []string{"a", "b"})
	if got := x.m.List(2); !slices.Equal(got, []api.Entry{{Key: "a", Value: "2"}, {Key: "b", Value: "1"}}) {
		t.Errorf("P21.2, P21.4: below the floor, List is %v", got)
	}
}
