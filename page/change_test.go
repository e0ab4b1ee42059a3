package page

import (
	"math"
	"slices"
	"strings"
	"testing"

	"blinktree/api"
	"blinktree/keys"
)

// pagesOf returns pages with the same slots and all kinds of other fields.
func pagesOf(keys ...string) []api.Page {
	return []api.Page{
		lastPage(0, keys...), inside(0, "\xff\xff\xff", keys...), lastPage(1, keys...), inside(5, "\xff\xff\xff", keys...),
	}
}

// with returns the page with other slots.
func with(p api.Page, slots []api.Slot) api.Page {
	p.Slots = slots
	return p
}

// expectInsert reports an error if Insert is not what P7.3 says, by sorting.
func expectInsert(t *testing.T, p api.Page, key string, ref uint64) {
	t.Helper()
	q, ok := insert(t, p, key, ref)
	if slices.ContainsFunc(p.Slots, func(s api.Slot) bool { return s.Key == key }) {
		if ok || !same(q, api.Page{}) {
			t.Errorf("P7.3: Insert(%#v, %q), which is there: %#v, %v", p, key, q, ok)
		}
		return
	}
	want := append(slices.Clone(p.Slots), api.Slot{Key: key, Ref: ref})
	slices.SortFunc(want, func(a, b api.Slot) int { return strings.Compare(a.Key, b.Key) })
	if !ok || !same(q, with(p, want)) {
		t.Errorf("P7.3: Insert(%#v, %q): %#v, %v", p, key, q, ok)
	}
}

// P7.3: each key of the universe into all pages with keys of it.
func TestInsertAll(t *testing.T) {
	for bits := range 1 << len(universe) {
		for i, p := range pagesOf(subset(universe, bits)...) {
			for _, key := range universe {
				expectInsert(t, p, key, 9+uint64(i))
			}
		}
	}
}

// P7.3: Insert limits neither the number of slots nor the reference nor the key, and does not ask for the bounds.
func TestInsertHasNoLimits(t *testing.T) {
	for _, n := range []int{0, 3, 4, 5, 31, 32, 33, 34, 300} {
		p := inside(0, "k\x00\x01", numbered(n)...)
		for _, key := range []string{"", "k\x00", "k\x00\x02\x00", "k\x01", "l", strings.Repeat("k", api.MaxKey+1)} {
			for _, ref := range []uint64{0, 1, 100, 1 << 32, math.MaxUint64} {
				expectInsert(t, p, key, ref)
			}
		}
	}
}

// P7.3: one slot after the other, in ascending, descending and mixed order, gives the same page.
func TestInsertInAnyOrder(t *testing.T) {
	const n = 40
	names := numbered(n)
	want := lastPage(0, names...)
	for step := range n {
		if step%2 == 0 || step%5 == 0 {
			continue
		}
		p := api.Page{Last: true}
		for k := range n {
			i := (k*step + 7) % n
			q, ok := Insert(p, names[i], 100+uint64(i))
			if !ok {
				t.Fatalf("P7.3: key %d is not there yet", i)
			}
			p = q
		}
		if !same(p, want) {
			t.Errorf("P7.3: in steps of %d: %#v", step, p)
		}
	}
}

// P7.4: the chapter's example, and other pages written out.
func TestSplitExamples(t *testing.T) {
	for _, c := range []struct {
		p         api.Page
		left      int
		separator string
	}{
		{lastPage(0, "a", "carp", "cart", "d"), 2, "cart"},
		{lastPage(0, "apple", "banana", "cherry", "date", "elder"), 3, "d"},
		{lastPage(1, "apple", "banana", "cherry", "date", "elder"), 3, "date"},
		{inside(0, "z", "apple", "banana", "cherry", "date", "elder"), 3, "d"},
		{inside(2, "z", "apple", "banana", "cherry", "date", "elder"), 3, "date"},
		{inside(0, "b", "", "a"), 1, "a"},
		{lastPage(0, "", "banana"), 1, "b"},
		{lastPage(3, "", "banana"), 1, "banana"},
		{lastPage(0, "", "\x00\x00"), 1, "\x00"},
		{lastPage(0, "car", "carpet"), 1, "carp"},
		{lastPage(1, "car", "carpet"), 1, "carpet"},
		{lastPage(0, "car", "carpet", "cat"), 2, "cat"},
		{lastPage(0, "ab\xff\xff", "b\xff", "\xff\x80\x00"), 2, "\xff"},
		{lastPage(math.MaxInt, "a", "ab", "abc", "abcd"), 2, "abc"},
	} {
		expectSplit(t, c.p, 7, c.left, c.separator)
	}
}

// expectSplit reports an error if Split does not divide a page behind so many slots with the separator, as P7.4 says.
func expectSplit(t *testing.T, p api.Page, right uint64, left int, separator string) {
	t.Helper()
	l, r, s, ok := split(t, p, right)
	if !ok || s != separator {
		t.Errorf("P7.4: the separator of %#v is %q, %v, want %q", p, s, ok, separator)
	}
	if !same(l, api.Page{Level: p.Level, Slots: p.Slots[:left], High: separator, Right: right}) {
		t.Errorf("P7.4: the left page of %#v is %#v", p, l)
	}
	if !same(r, api.Page{Level: p.Level, Slots: p.Slots[left:], High: p.High, Last: p.Last, Right: p.Right}) {
		t.Errorf("P7.4: the right page of %#v is %#v", p, r)
	}
}

// P7.4: pages of every size: the left page has as many slots as the right one, or one more.
func TestSplitSizes(t *testing.T) {
	for n := 2; n <= 70; n++ {
		left := (n + 1) / 2
		names := numbered(n)
		for i, p := range pagesOf(names...) {
			separator := names[left]
			if p.Level == 0 {
				separator = keys.Separator(names[left-1], names[left])
			}
			for _, right := range []uint64{0, 1, 9, 1 << 32, math.MaxUint64} {
				expectSplit(t, p, right+uint64(i), left, separator)
			}
		}
	}
}

// P7.4: less than two slots cannot be divided.
func TestSplitTooSmall(t *testing.T) {
	for _, p := range append(append(pagesOf(), pagesOf("")...), pagesOf("a")...) {
		if l, r, s, ok := split(t, p, 7); ok || s != "" || !same(l, api.Page{}) || !same(r, api.Page{}) {
			t.Errorf("P7.4: Split(%#v) is %#v, %#v, %q, %v", p, l, r, s, ok)
		}
	}
}

// expectRemove reports an error if Remove is not what P7.5 says, by comparing each key with each other one.
func expectRemove(t *testing.T, p api.Page, list []string) {
	t.Helper()
	var want []api.Slot
	for _, s := range p.Slots {
		if !slices.Contains(list, s.Key) {
			want = append(want, s)
		}
	}
	if q := remove(t, p, list); !same(q, with(p, want)) {
		t.Errorf("P7.5: Remove(%#v, %q) is %#v", p, list, q)
	}
}

// P7.5: all sets of keys of a small universe from all pages with keys of it.
func TestRemoveAll(t *testing.T) {
	small := universe[:6]
	for bits := range 1 << len(small) {
		for _, p := range pagesOf(subset(small, bits)...) {
			for gone := range 1 << len(small) {
				expectRemove(t, p, subset(small, gone))
			}
		}
	}
}

// P7.5: the elements of remove may be in any order, repeated, or not in the page; nothing else is removed.
func TestRemoveLists(t *testing.T) {
	for _, p := range append(pagesOf("", "a", "ab", "b", "\xff"), pagesOf()...) {
		for _, list := range [][]string{
			nil, {}, {"x"}, {""}, {"\xff", "a", ""}, {"b", "b", "b"}, {"abc", "A", "\x00", "b\x00"}, {"b", "x", "a", "b"},
			{"\xff", "b", "ab", "a", ""}, {strings.Repeat("a", 1000)},
		} {
			expectRemove(t, p, list)
		}
	}
	for _, n := range []int{32, 33, 300} {
		names := numbered(n)
		p := lastPage(0, names...)
		expectRemove(t, p, names)
		expectRemove(t, p, names[1:])
		expectRemove(t, p, names[:n-1])
		expectRemove(t, p, names[n/2:])
	}
}

// P7.5: a key that has been inserted is removed again.
func TestRemoveAfterInsert(t *testing.T) {
	for bits := range 1 << len(universe) {
		for _, p := range pagesOf(subset(universe, bits)...) {
			for _, key := range universe {
				if q, ok := Insert(p, key, 77); ok && !same(Remove(q, []string{key}), p) {
					t.Errorf("P7.5: %q of %#v", key, q)
				}
			}
		}
	}
}

// expectSides reports an error if a valid page with at least two slots is not divided as P7.6 says.
func expectSides(t *testing.T, p api.Page, some []string) {
	t.Helper()
	n := len(p.Slots)
	l, r, s, ok := Split(p, 33)
	if !ok || !Check(p, n) {
		t.Fatalf("P7.6: %#v is not divided or not valid", p)
	}
	for fanout := n - n/2; fanout <= n+1; fanout++ {
		if !Check(l, fanout) || !Check(r, fanout) {
			t.Errorf("P7.6: %#v and %#v are not valid for %d", l, r, fanout)
		}
	}
	if Check(l, n-n/2-1) {
		t.Errorf("P7.6: %#v is valid for too little", l)
	}
	for _, key := range some {
		if keys.Within(key, p.Slots[0].Key, p.High, p.Last) {
			expectSide(t, p, l, r, s, key)
		}
	}
}

// expectSide reports an error if the key of a page is not on its side after the division.
func expectSide(t *testing.T, p, l, r api.Page, separator, key string) {
	t.Helper()
	toLeft := key < separator
	if keys.Within(key, p.Slots[0].Key, l.High, l.Last) != toLeft || keys.Within(key, separator, r.High, r.Last) == toLeft {
		t.Errorf("P7.6: %q is not within its side of %q", key, separator)
	}
	at, in := Find(p, key)
	i, inLeft := Find(l, key)
	j, inRight := Find(r, key)
	if inLeft != (in && toLeft) || inRight != (in && !toLeft) {
		t.Errorf("P7.6: %q is found on the wrong side of %q: %v, %v", key, separator, inLeft, inRight)
	}
	if toLeft && i != at || !toLeft && len(l.Slots)+j != at {
		t.Errorf("P7.6: %q would have another place on its side of %q", key, separator)
	}
	side := r
	if toLeft {
		side = l
	}
	if p.Level > 0 {
		was, _ := Child(p, key)
		if got, ok := Child(side, key); got != was || !ok {
			t.Errorf("P7.6: %q has the child %#v, %v, want %#v", key, got, ok, was)
		}
	}
}

// P7.6: all pages with keys of the universe.
func TestSidesAll(t *testing.T) {
	some := append(slices.Clone(universe), "\x00\x00", "\x01", "aa", "ac", "\x7f", "\x81", "\xfe", "\xff\x00", "\xff\xff\xff")
	for bits := range 1 << len(universe) {
		for _, p := range pagesOf(subset(universe, bits)...) {
			if len(p.Slots) >= 2 {
				expectSides(t, p, some)
			}
		}
	}
}

// P7.6: pages of every size, divided again and again until each has one slot.
func TestSidesAgain(t *testing.T) {
	for n := 2; n <= 40; n++ {
		names := numbered(n)
		var some []string
		for _, name := range names {
			some = append(some, name[:2], name, name+"\x00")
		}
		for _, p := range pagesOf(names...) {
			todo := []api.Page{p}
			for len(todo) > 0 {
				q := todo[0]
				todo = todo[1:]
				if len(q.Slots) < 2 {
					continue
				}
				expectSides(t, q, some)
				l, r, _, _ := Split(q, 33)
				todo = append(todo, l, r)
			}
		}
	}
}

// P7.6: a right sibling with the number 0 does not exist, so that the left page is not valid.
func TestSplitWithoutNumber(t *testing.T) {
	l, r, _, ok := Split(lastPage(0, "a", "b", "c"), 0)
	if !ok || Check(l, 4) || !Check(r, 4) {
		t.Errorf("P7.6: %#v, %#v, %v", l, r, ok)
	}
}
