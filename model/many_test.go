package model

import (
	"slices"
	"strconv"
	"strings"
	"testing"

	"blinktree/api"
)

// dice is a sequence of numbers that seem random.
type dice struct{ x uint64 }

// newDice returns the sequence of a seed.
func newDice(seed int) *dice {
	g := &dice{x: uint64(seed)}
	for range 16 {
		g.roll(1)
	}
	return g
}

// roll returns a number less than n.
func (g *dice) roll(n int) int {
	g.x = g.x*6364136223846793005 + 1442695040888963407
	return int(g.x >> 33 % uint64(n))
}

// oneOf returns an element of a list.
func oneOf[T any](g *dice, list []T) T { return list[g.roll(len(list))] }

// batch returns a batch of some writes of some keys, several of which may be of one key.
func (g *dice) batch(keys []string) []api.Write {
	var b []api.Write
	for range g.roll(g.roll(api.MaxBatch+1) + 1) {
		w := api.Write{Key: oneOf(g, keys)}
		switch g.roll(5) {
		case 0, 1:
			w.Delete = true
		case 2:
			w.Value = strings.Repeat("v", g.roll(api.MaxValue+1))
		default:
			w.Value = strconv.Itoa(g.roll(1000))
		}
		b = append(b, w)
	}
	return b
}

// universe returns 121 keys, the empty one included. Many of them are prefixes of others.
func universe() []string {
	list := []string{""}
	for i := 0; len(list[i]) < 4; i++ {
		for _, s := range []string{"\x00", "a", "\xff"} {
			list = append(list, list[i]+s)
		}
	}
	return list
}

// P21.1, P21.2, P21.3, P21.4: all sequences of five calls out of ten.
func TestAllShort(t *testing.T) {
	acts := []func(x pair){
		func(x pair) { x.apply(t, nil) },
		func(x pair) { x.apply(t, put("a", "1")) },
		func(x pair) { x.apply(t, put("b", "2", "a", "-")) },
		func(x pair) { x.open(t, 0, 0) },
		func(x pair) { x.open(t, 0, 1) },
		func(x pair) { x.release(0, 0) },
		func(x pair) { x.open(t, 1, 0) },
		func(x pair) { x.raise(t, 0) },
		func(x pair) { x.raise(t, 1) },
		func(x pair) { x.raise(t, 2) },
	}
	const length = 5
	total := 1
	for range length {
		total *= len(acts)
	}
	for n := range total {
		x := newPair()
		for range length {
			acts[n%len(acts)](x)
			n /= len(acts)
		}
		x.expectAll(t, []string{"a", "b"})
	}
}

// P21.1, P21.2, P21.3, P21.4: long sequences of calls, with what follows from each call.
func TestMany(t *testing.T) {
	var raised, refused, replaced, shared, emptied int
	for seed := range 60 {
		g := newDice(seed)
		x := newPair()
		names := universe()
		some := names[:3+g.roll(len(names)-3)]
		threads := 1 + g.roll(5)
		for range 150 {
			thread, j := g.roll(threads), g.roll(3)
			switch g.roll(8) {
			case 0, 1, 2:
				x.apply(t, g.batch(some))
			case 3, 4:
				if time, open := x.p.open[[2]int{thread, j}]; open && time < x.p.time() {
					replaced++
				}
				x.open(t, thread, j)
			case 5, 6:
				x.release(thread, j)
			default:
				was := x.p.floor
				if !x.raise(t, uint64(g.roll(int(x.p.watermark())+2))) {
					refused++
				} else if x.p.floor > was {
					raised++
				}
			}
			x.expectNumbers(t)
			x.expectState(t, uint64(g.roll(int(x.p.time())+2)), []string{oneOf(g, names), oneOf(g, some)})
			if all := x.p.snapshots(); len(slices.Compact(slices.Clone(all))) < len(all) {
				shared++
			} else if len(all) == 0 {
				emptied++
			}
		}
		x.expectAll(t, names)
	}
	for i, n := range []int{raised, refused, replaced, shared, emptied} {
		if n < 100 {
			t.Errorf("the test does too little: count %d is %d", i, n)
		}
	}
}

// P21.2: the past of many batches is found as quickly as the present.
func TestLong(t *testing.T) {
	const n = 1 << 17
	m := New()
	for i := range n {
		if got := m.Apply(put("a", strconv.Itoa(i+1), "k"+strconv.Itoa(i%5000), "x")); got != uint64(i+1) {
			t.Fatalf("P21.2: batch %d: Apply is %d", i+1, got)
		}
	}
	for time := range uint64(n) {
		if v, ok := m.Get("a", time+1); v != strconv.Itoa(int(time+1)) || !ok {
			t.Fatalf("P21.2: Get at %d is %q, %v", time+1, v, ok)
		}
	}
	for _, time := range []uint64{0, 1, 2, 4999, 5000, 5001, n - 1, n, n + 1} {
		want := 0
		if time > 0 {
			want = int(min(time, 5000)) + 1
		}
		if got := m.List(time); len(got) != want || !slices.IsSortedFunc(got, func(a, b api.Entry) int { return strings.Compare(a.Key, b.Key) }) {
			t.Errorf("P21.2: List(%d) has %d entries, not %d, or they are not in order", time, len(got), want)
		}
	}
}
