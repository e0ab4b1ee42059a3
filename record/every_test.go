package record

import (
	"math"
	"slices"
	"testing"

	"blinktree/api"
)

// The chains of these tests have stamps up to top. The times are those up to top + 1, and the greatest one.
const top = 3

// everyTime returns the times that the tests use, in ascending order.
func everyTime() []uint64 {
	var all []uint64
	for time := range uint64(top + 2) {
		all = append(all, time)
	}
	return append(all, math.MaxUint64)
}

// everyChain calls use with all chains of at most a number of versions, valid or not. Versions with values have different ones in
// different positions, or empty ones.
func everyChain(length int, use func(l []api.Version)) {
	var extend func(l []api.Version)
	extend = func(l []api.Version) {
		use(chain(l...))
		if len(l) == length {
			return
		}
		name := string(rune('a' + len(l)))
		for stamp := range uint64(top + 1) {
			for _, v := range []api.Version{set(stamp, name), set(stamp, ""), gone(stamp), {Stamp: stamp, Value: name, Delete: true}} {
				extend(append(l[:len(l):len(l)], v))
			}
		}
	}
	extend(nil)
}

// isValid is P9.1, read word for word.
func isValid(l []api.Version) bool {
	for i, v := range l {
		if v.Delete && v.Value != "" || i > 0 && v.Stamp == 0 {
			return false
		}
		for _, older := range l[i+1:] {
			if v.Stamp != 0 && older.Stamp != 0 && older.Stamp >= v.Stamp {
				return false
			}
		}
	}
	return true
}

// seen returns the positions of the versions that are not pending and whose stamp is at most time.
func seen(l []api.Version, time uint64) []int {
	var all []int
	for i, v := range l {
		if v.Stamp != 0 && v.Stamp <= time {
			all = append(all, i)
		}
	}
	return all
}

// P9.1 and P9.5
func TestEveryChain(t *testing.T) {
	valid := 0
	everyChain(4, func(l []api.Version) {
		was := whole(l)
		got := Check(l)
		expectUntouched(t, "Check", l, was)
		if got != isValid(l) {
			t.Fatalf("P9.1: Check(%v) is %v", l, got)
		}
		if got {
			valid++
		}
		var want []uint64
		for _, i := range seen(l, math.MaxUint64) {
			want = append(want, l[i].Stamp)
		}
		if got := times(t, l); !slices.Equal(got, want) {
			t.Fatalf("P9.5: Times(%v) is %v", l, got)
		}
	})
	// Each stamp from 1 to top is that of one of three versions or of none, and there may be a pending one of three before them.
	if want := 4 * 4 * 4 * 4; valid != want {
		t.Errorf("P9.1: %d chains are valid, not %d", valid, want)
	}
}

// P9.2 and P9.3
func TestEveryTime(t *testing.T) {
	everyChain(3, func(l []api.Version) {
		was := whole(l)
		for _, time := range everyTime() {
			expectVisible(t, l, time)
			expectCut(t, l, time)
			expectUntouched(t, "a function", l, was)
		}
	})
}

// expectVisible compares Visible and Value with P9.2.
func expectVisible(t *testing.T, l []api.Version, time uint64) {
	t.Helper()
	var want api.Version
	value := ""
	candidates := seen(l, time)
	if len(candidates) > 0 {
		want = l[candidates[0]]
	}
	in := len(candidates) > 0 && !want.Delete
	if in {
		value = want.Value
	}
	if v, ok := Visible(l, time); v != want || ok != (len(candidates) > 0) {
		t.Fatalf("P9.2: Visible(%v, %d) is %v, %v", l, time, v, ok)
	}
	if s, ok := Value(l, time); s != value || ok != in {
		t.Fatalf("P9.2: Value(%v, %d) is %q, %v", l, time, s, ok)
	}
}

// expectCut compares Cut and Dead with P9.3.
func expectCut(t *testing.T, l []api.Version, floor uint64) {
	t.Helper()
	want := l
	candidates := seen(l, floor)
	if len(candidates) > 0 {
		want = l[:candidates[0]+1]
	}
	if got := cut(t, l, floor); !slices.Equal(got, want) {
		t.Fatalf("P9.3: Cut(%v, %d) is %v", l, floor, got)
	}
	dead := len(l) == 0 || l[0].Stamp != 0 && l[0].Stamp <= floor && l[0].Delete
	if got := Dead(l, floor); got != dead {
		t.Fatalf("P9.3: Dead(%v, %d) is %v", l, floor, got)
	}
}

// P9.4
func TestEveryFloor(t *testing.T) {
	everyChain(4, func(l []api.Version) {
		if !isValid(l) {
			return
		}
		for i, floor := range everyTime() {
			expectFloor(t, l, floor, everyTime()[i:])
		}
	})
}

// expectFloor compares a valid chain, and what Cut leaves of it, at the times from floor upwards.
func expectFloor(t *testing.T, l []api.Version, floor uint64, times []uint64) {
	t.Helper()
	short, dead := cut(t, l, floor), Dead(l, floor)
	for _, time := range times {
		v, ok := Visible(l, time)
		if w, in := Visible(short, time); w != v || in != ok {
			t.Fatalf("P9.4: Visible at %d is %v, %v for %v, and %v, %v after Cut at %d", time, v, ok, l, w, in, floor)
		}
		if s, in := Value(l, time); dead && in {
			t.Fatalf("P9.4: %v is dead at %d, but has the value %q at %d", l, floor, s, time)
		}
	}
	if again := cut(t, short, floor); !slices.Equal(again, short) {
		t.Fatalf("P9.4: Cut at %d makes %v of %v, and then %v", floor, short, l, again)
	}
	if !Check(short) || Dead(short, floor) != dead {
		t.Fatalf("P9.1 and P9.3: Cut at %d of %v is not valid, or Dead is another: %v", floor, l, short)
	}
}

// P9.1 to P9.5
func TestLongChain(t *testing.T) {
	const n = 2 * api.MaxRecords
	l := []api.Version{set(0, "p")}
	for stamp := uint64(n); stamp > 0; stamp-- {
		l = append(l, set(stamp, "v"))
	}
	if !Check(l) {
		t.Error("P9.1: a long chain is valid")
	}
	if v, ok := Visible(l, 1); !ok || v.Stamp != 1 {
		t.Errorf("P9.2: Visible at 1 is %v, %v", v, ok)
	}
	if got := len(cut(t, l, n/2)); got != n/2+2 {
		t.Errorf("P9.3: Cut at %d leaves %d versions", n/2, got)
	}
	if got := times(t, l); len(got) != n || got[0] != n || got[n-1] != 1 {
		t.Errorf("P9.5: Times has %d stamps", len(got))
	}
	l[n].Stamp = 2
	if Check(l) {
		t.Error("P9.1: the last two stamps of a long chain are equal")
	}
}
