package registry

import (
	"math"
	"slices"
	"testing"

	"blinktree/api"
)

// least returns the least timestamp of the open snapshots and Published, as P18.2 says.
func (d *database) least() uint64 {
	time := d.want[d.l.Published()].N
	for _, i := range d.snapshots {
		if n := d.want[i].N; n != 0 && n-1 < time {
			time = n - 1
		}
	}
	return time
}

// finish makes the steps of a Watermark that has made some, and returns its result. It needs one step for each cell that it loads, and
// has no result before the last one.
func (d *database) finish(t *testing.T, w *Watermark, made int) uint64 {
	t.Helper()
	for k := made; k <= len(d.snapshots); k++ {
		if w.Time() != 0 {
			t.Fatalf("P2.4: Time is %d before the watermark is known", w.Time())
		}
		d.step(t, w, k == len(d.snapshots))
	}
	time := w.Time()
	if d.expectFinished(t, w); w.Time() != time {
		t.Fatalf("P2.4: Time is %d, and %d afterwards", time, w.Time())
	}
	return time
}

// expectWatermark reports an error if a Watermark changes something, or does not find what it should.
func (d *database) expectWatermark(t *testing.T) {
	t.Helper()
	accesses := d.m.Accesses()
	w := NewWatermark(d.l)
	if time := d.finish(t, w, 0); time != d.least() {
		t.Fatalf("P18.2, P18.3: with Published %d and the snapshots %v the watermark is %d, want %d",
			d.want[d.l.Published()].N, d.numbers(), time, d.least())
	}
	d.expect(t, "P18.2", accesses+1+uint64(len(d.snapshots)))
}

// numbers returns what the cells of the snapshots contain.
func (d *database) numbers() []uint64 {
	var list []uint64
	for _, i := range d.snapshots {
		list = append(list, d.want[i].N)
	}
	return list
}

// expectLive reports an error if Live is not the timestamps of the open snapshots in ascending order, makes an access or changes
// something.
func (d *database) expectLive(t *testing.T) {
	t.Helper()
	var want []uint64
	for _, n := range d.numbers() {
		if n != 0 {
			want = append(want, n-1)
		}
	}
	// They are put in order by exchanging neighbours.
	for range want {
		for k := 1; k < len(want); k++ {
			if want[k-1] > want[k] {
				want[k-1], want[k] = want[k], want[k-1]
			}
		}
	}
	accesses := d.m.Accesses()
	if live := Live(d.l, d.m); !slices.Equal(live, want) {
		t.Fatalf("P18.4: with the snapshots %v Live is %v, want %v", d.numbers(), live, want)
	}
	d.expect(t, "P18.4", accesses)
}

// P18.2, P18.3, P18.4: all ways in which up to six cells contain no snapshot, one that is being opened, or one that is open, some of
// them at the same timestamps, and below, at and above Published.
func TestAllContents(t *testing.T) {
	numbers := []uint64{0, 1, 4, 6}
	for _, s := range []shape{{1, 1}, {1, 2}, {2, 2}, {5, 1}, {2, 3}} {
		for code := range 1 << (2 * s.threads * s.snapshots) {
			d := start(t, s, []uint64{0, 3, 4, 5, 9}[code%5])
			var list []uint64
			for k := range s.threads * s.snapshots {
				list = append(list, numbers[code>>(2*k)%4])
			}
			d.setSnapshots(list)
			d.expectWatermark(t)
			d.expectLive(t)
		}
	}
}

// P18.2, P18.4: each cell counts, alone, beside those that are open at later timestamps, and beside those that are open at earlier
// ones.
func TestEachSnapshotCounts(t *testing.T) {
	for _, s := range shapes() {
		for k := range s.threads * s.snapshots {
			d := start(t, s, 60)
			list := make([]uint64, s.threads*s.snapshots)
			for _, others := range []uint64{0, 40, 61, 8} {
				for i := range list {
					list[i] = others
				}
				list[k] = 31
				d.setSnapshots(list)
				d.expectWatermark(t)
				d.expectLive(t)
			}
		}
	}
}

// P18.2, P18.4: all timestamps, for Published and for a snapshot.
func TestAllTimes(t *testing.T) {
	for _, published := range append(times(), math.MaxUint64) {
		for _, time := range append(times(), math.MaxUint64-1) {
			d := start(t, shape{1, 3}, published)
			d.expectWatermark(t)
			d.setSnapshots([]uint64{time + 1, 0, api.MaxClock + 1})
			d.expectWatermark(t)
			d.expectLive(t)
			d.setSnapshots([]uint64{0, time + 1, time + 1})
			d.expectWatermark(t)
			d.expectLive(t)
		}
	}
}

// P18.2, P18.4: many snapshots of many threads.
func TestManySnapshots(t *testing.T) {
	state := uint64(1)
	for _, s := range shapes() {
		for range 20 {
			d := start(t, s, 400)
			for _, i := range d.snapshots {
				state = next(state)
				if n := state >> 33 % 1200; n < 600 {
					d.set(i, api.Cell{N: n})
				}
			}
			d.expectWatermark(t)
			d.expectLive(t)
		}
	}
}

// next returns the next state of a sequence of numbers that seem random.
func next(x uint64) uint64 { return x*6364136223846793005 + 1442695040888963407 }

// P18.2: Published is loaded in the first step: what it contains before and afterwards does not matter.
func TestPublishedIsLoadedFirst(t *testing.T) {
	for _, s := range shapes()[:7] {
		for made := range s.threads*s.snapshots + 2 {
			for _, later := range []uint64{0, 3, 12} {
				d := start(t, s, 7)
				w := NewWatermark(d.l)
				want := uint64(7)
				if made == 0 {
					want = later
				}
				for k := range made {
					d.step(t, w, k == s.threads*s.snapshots)
				}
				d.setPublished(later)
				if made <= s.threads*s.snapshots {
					d.finish(t, w, made)
				}
				if w.Time() != want {
					t.Fatalf("P18.2: Published is %d after %d steps: the watermark is %d, want %d", later, made, w.Time(), want)
				}
			}
		}
	}
}

// sees reports whether a Watermark finds what a cell contains from a number of steps on, if it contains something else before that.
func sees(t *testing.T, s shape, cell, made int, before, after uint64) bool {
	t.Helper()
	d := start(t, s, 9)
	d.set(cell, api.Cell{N: before})
	w := NewWatermark(d.l)
	for range made {
		d.step(t, w, false)
	}
	old := d.least()
	d.set(cell, api.Cell{N: after})
	time := d.finish(t, w, made)
	if time != old && time != d.least() {
		t.Fatalf("P18.2: the watermark is %d, want %d or %d", time, old, d.least())
	}
	return time == d.least()
}

// P18.2: the cells of the snapshots are loaded after Published, in one step each: from it on, changes of the cell do not matter, and
// before it, they do.
func TestEachSnapshotIsLoadedOnce(t *testing.T) {
	for _, s := range shapes()[:7] {
		count := s.threads * s.snapshots
		loads := make([]int, count+1)
		for k := range count {
			for _, change := range [][2]uint64{{0, 4}, {4, 0}, {4, 6}, {6, 4}, {0, 1}, {1, 0}} {
				seen := 0
				for made := range count + 1 {
					if !sees(t, s, 8+k, made, change[0], change[1]) {
						continue
					}
					if seen++; seen != made+1 {
						t.Fatalf("P18.2: a change after %d steps matters, but not each one before", made)
					}
				}
				if seen < 2 {
					t.Fatal("P18.2: the cell of a snapshot is loaded before Published")
				}
				loads[seen-1]++
			}
		}
		for made := 1; made <= count; made++ {
			if loads[made] != 6 {
				t.Fatalf("P18.2: with %v, not each step after the first one loads another snapshot: %v", s, loads)
			}
		}
	}
}

// P18.2, P18.4: a snapshot that is being opened holds the watermark down to 0, until its timestamp is known.
func TestWhileOpening(t *testing.T) {
	for _, s := range shapes()[:7] {
		for k := range s.threads * s.snapshots {
			d := start(t, s, 6)
			o := NewOpen(d.l, k/s.snapshots, k%s.snapshots)
			for step := range 3 {
				d.expectWatermark(t)
				d.expectLive(t)
				d.step(t, o, step == 2)
				d.want[8+k] = api.Cell{N: []uint64{1, 1, 7}[step]}
			}
			d.setPublished(9)
			d.expectWatermark(t)
			d.expectLive(t)
			d.step(t, NewRelease(d.l, k/s.snapshots, k%s.snapshots), true)
			d.want[8+k] = api.Cell{}
			d.expectWatermark(t)
			d.expectLive(t)
		}
	}
}

// P18.4: the result is new memory each time.
func TestLiveIsNew(t *testing.T) {
	d := start(t, shape{2, 2}, 6)
	d.setSnapshots([]uint64{5, 0, 3, 5})
	first := Live(d.l, d.m)
	clear(first)
	_ = append(first[:1], 77)
	d.expectLive(t)
	d.expectWatermark(t)
}

// P18.2, P18.4: the chapter's example.
func TestExample(t *testing.T) {
	d := start(t, shape{1, 2}, 3)
	d.expectOpens(t, 0, 1, d.l.Snapshot(0, 1))
	d.setPublished(5)
	d.expectOpens(t, 0, 0, d.l.Snapshot(0, 0))
	w := NewWatermark(d.l)
	if time := d.finish(t, w, 0); time != 3 {
		t.Errorf("P18.2: the watermark is %d, want 3", time)
	}
	if live := Live(d.l, d.m); !slices.Equal(live, []uint64{3, 5}) {
		t.Errorf("P18.4: Live is %v, want 3 and 5", live)
	}
}
