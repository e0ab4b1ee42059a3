package batch

import (
	"slices"
	"strconv"
	"strings"
	"testing"

	"blinktree/api"
)

// P15.3
func TestApply(t *testing.T) {
	bd := entries("b", "1", "d", "2")
	for i, c := range []struct {
		l    []api.Entry
		b    []api.Write
		want []api.Entry
	}{
		{nil, nil, nil},
		{[]api.Entry{}, []api.Write{}, nil},
		{bd, nil, bd},
		{nil, writes(set("a", "1")), entries("a", "1")},
		{nil, writes(set("a", "")), entries("a", "")},
		{nil, writes(set("", "")), entries("", "")},
		{nil, writes(gone("a")), nil},
		{bd, writes(set("a", "3")), entries("a", "3", "b", "1", "d", "2")},
		{bd, writes(set("c", "3")), entries("b", "1", "c", "3", "d", "2")},
		{bd, writes(set("e", "3")), entries("b", "1", "d", "2", "e", "3")},
		{bd, writes(set("", "3")), entries("", "3", "b", "1", "d", "2")},
		{bd, writes(set("b", "3")), entries("b", "3", "d", "2")},
		{bd, writes(set("d", "3")), entries("b", "1", "d", "3")},
		{bd, writes(set("b", "")), entries("b", "", "d", "2")},
		{bd, writes(set("b", "1")), bd},
		{bd, writes(gone("b")), entries("d", "2")},
		{bd, writes(gone("d")), entries("b", "1")},
		{bd, writes(gone("b"), gone("d")), nil},
		{bd, writes(gone("d"), gone("b")), nil},
		{bd, writes(gone("a")), bd},
		{bd, writes(gone("c"), gone("e"), gone("")), bd},
		{bd, writes(gone("b"), set("b", "3")), entries("b", "3", "d", "2")},
		{bd, writes(set("b", "3"), gone("b")), entries("d", "2")},
		{bd, writes(set("c", "3"), gone("c")), bd},
		{bd, writes(gone("c"), set("c", "3")), entries("b", "1", "c", "3", "d", "2")},
		{bd, writes(set("c", "3"), set("c", "4"), set("c", "5")), entries("b", "1", "c", "5", "d", "2")},
		{bd, writes(set("e", "3"), set("c", "4"), set("a", "5")), entries("a", "5", "b", "1", "c", "4", "d", "2", "e", "3")},
		{bd, writes(set("c", "3"), gone("d"), set("a", ""), set("b", "4"), gone("x"), set("c", "5")), entries("a", "", "b", "4", "c", "5")},
		{entries("a", "1", "\x7f", "2", "\xff", "3"), writes(set("\x80", "4"), gone("\xff"), set("a\x00", "5")), entries("a", "1", "a\x00", "5", "\x7f", "2", "\x80", "4")},
		{entries("", "1", "\x00", "2", "\x00\x00", "3"), writes(gone("\x00"), set("\x00\x01", "4")), entries("", "1", "\x00\x00", "3", "\x00\x01", "4")},
		{entries("car", "1", "carpet", "2"), writes(set("carp", "3"), gone("car")), entries("carp", "3", "carpet", "2")},
	} {
		if got := apply(t, c.l, c.b); !slices.Equal(got, c.want) {
			t.Errorf("P15.3: row %d: Apply(%v, %v) is %v", i, c.l, c.b, got)
		}
	}
}

// P15.3: Apply does not check the batch.
func TestApplyUnchecked(t *testing.T) {
	wide, great := strings.Repeat("k", 100), strings.Repeat("v", 1000)
	for i, c := range []struct {
		l    []api.Entry
		b    []api.Write
		want []api.Entry
	}{
		{nil, writes(set(key33, value65)), entries(key33, value65)},
		{entries("a", "1"), writes(set(wide, great), set("a", great)), entries("a", great, wide, great)},
		{entries(wide, great, wide+"x", "1"), writes(gone(wide), set(key32, "2")), entries(key32, "2", wide+"x", "1")},
		{entries("a", "1", "b", "2"), writes(both("a", "3")), entries("b", "2")},
		{entries("b", "2"), writes(both("a", "3")), entries("b", "2")},
		{entries("b", "2"), writes(both("b", "3"), set("b", "4")), entries("b", "4")},
		{entries("b", "2"), writes(set("b", "4"), both("b", great), set(key33, "")), entries(key33, "")},
		{entries("a", "1"), same(17, set("a", "2")), entries("a", "2")},
		{entries("a", "1"), same(1000, gone("a")), nil},
	} {
		if got := apply(t, c.l, c.b); !slices.Equal(got, c.want) {
			t.Errorf("P15.3: row %d: Apply(%v, %v) is %v", i, c.l, c.b, got)
		}
	}
}

// name returns a key; the order of the keys is that of their numbers.
func name(i int) string { return "k" + strconv.Itoa(1000000+i) }

// P15.3: long lists and long batches, in an order that is neither ascending nor descending.
func TestApplyLong(t *testing.T) {
	const n = 1 << 17
	var l, want []api.Entry
	for i := range n {
		l = append(l, api.Entry{Key: name(2 * i), Value: "old"})
	}
	var b []api.Write
	for i := range 2 * n {
		k := i * 48271 % (2 * n)
		b = append(b, set(name(k), "lost"))
	}
	for i := range 2 * n {
		k := i * 16807 % (2 * n)
		if k%3 == 0 {
			b = append(b, gone(name(k)))
		} else {
			b = append(b, set(name(k), strconv.Itoa(k)))
		}
	}
	for k := range 2 * n {
		if k%3 != 0 {
			want = append(want, api.Entry{Key: name(k), Value: strconv.Itoa(k)})
		}
	}
	if got := apply(t, l, b); !slices.Equal(got, want) {
		t.Errorf("P15.3: Apply of %d writes to %d entries gives %d entries, or others", len(b), len(l), len(got))
	}
	if got := apply(t, l, writes(gone(name(0)), set(name(2*n), "x"))); len(got) != n || got[0] != l[1] || got[n-1].Value != "x" {
		t.Errorf("P15.3: Apply of two writes to %d entries gives %d entries, or others", len(l), len(got))
	}
}

// P15.3: for lists that are not ascending, Apply only has to return (rule 1), and still must not modify anything.
func TestApplyDisorder(t *testing.T) {
	pool := []string{"", "a", "b", "c", "d"}
	var extend func(l []api.Entry)
	extend = func(l []api.Entry) {
		for _, x := range pool {
			apply(t, roomy(spareEntry, l), writes(set(x, "1"), gone("b"), set("c", "2")))
			apply(t, roomy(spareEntry, l), writes(gone(x), gone("a"), gone("d")))
		}
		if len(l) == 4 {
			return
		}
		for _, x := range pool {
			extend(append(l[:len(l):len(l)], api.Entry{Key: x, Value: "v"}))
		}
	}
	extend(nil)
}
