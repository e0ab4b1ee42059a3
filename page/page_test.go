package page

import (
	"math"
	"slices"
	"strings"
	"testing"

	"blinktree/api"
)

// spare is the key of the slots behind the end of the slots of a page that a test passes.
const spare = "behind the end"

// slotsOf returns slots with the keys and different references, and room behind them that nobody may write.
func slotsOf(keys ...string) []api.Slot {
	all := make([]api.Slot, 0, len(keys)+3)
	for i, key := range keys {
		all = append(all, api.Slot{Key: key, Ref: 100 + uint64(i)})
	}
	for range 3 {
		all = append(all, api.Slot{Key: spare, Ref: 7})
	}
	return all[:len(keys)]
}

// lastPage returns a page without a high key.
func lastPage(level int, keys ...string) api.Page {
	return api.Page{Level: level, Slots: slotsOf(keys...), Last: true}
}

// inside returns a page with a high key and the right sibling 9.
func inside(level int, high string, keys ...string) api.Page {
	return api.Page{Level: level, Slots: slotsOf(keys...), High: high, Right: 9}
}

// same compares two pages; a nil slice and an empty one are equal (rule 2).
func same(a, b api.Page) bool {
	return a.Level == b.Level && slices.Equal(a.Slots, b.Slots) && a.High == b.High && a.Last == b.Last && a.Right == b.Right
}

// whole returns a copy of the slots and of the room behind them.
func whole(slots []api.Slot) []api.Slot { return slices.Clone(slots[:cap(slots)]) }

// watched is a page that a function gets, with what it was before.
type watched struct {
	page, was api.Page
	memory    []api.Slot
}

// watch remembers what a page is.
func watch(p api.Page) watched {
	was := p
	was.Slots = slices.Clone(p.Slots)
	return watched{page: p, was: was, memory: whole(p.Slots)}
}

// expectUntouched reports an error if the page, or the room behind its slots, has changed (rule 3).
func (w watched) expectUntouched(t *testing.T, function string) {
	t.Helper()
	if !same(w.page, w.was) || !slices.Equal(whole(w.page.Slots), w.memory) {
		t.Errorf("rule 3: %s modified its argument %#v: %#v", function, w.was, w.page)
	}
}

// scribble overwrites the slots of a result and the room behind them.
func scribble(p api.Page) {
	all := p.Slots[:cap(p.Slots)]
	for i := range all {
		all[i] = api.Slot{Key: "overwritten", Ref: 1}
	}
}

// insert, split, remove and check call the functions, and report an error if the argument changes, even if the caller overwrites
// the results afterwards. They return copies of the results.
func insert(t *testing.T, p api.Page, key string, ref uint64) (api.Page, bool) {
	t.Helper()
	w := watch(p)
	q, ok := Insert(p, key, ref)
	w.expectUntouched(t, "Insert")
	result := watch(q).was
	scribble(q)
	w.expectUntouched(t, "Insert, by its result,")
	return result, ok
}

func remove(t *testing.T, p api.Page, keys []string) api.Page {
	t.Helper()
	w, wasKeys := watch(p), slices.Clone(keys)
	q := Remove(p, keys)
	w.expectUntouched(t, "Remove")
	result := watch(q).was
	scribble(q)
	w.expectUntouched(t, "Remove, by its result,")
	if !slices.Equal(keys, wasKeys) {
		t.Errorf("rule 3: Remove modified its argument %q: %q", wasKeys, keys)
	}
	return result
}

func split(t *testing.T, p api.Page, right uint64) (api.Page, api.Page, string, bool) {
	t.Helper()
	w := watch(p)
	l, r, separator, ok := Split(p, right)
	w.expectUntouched(t, "Split")
	left, other := watch(l), watch(r)
	scribble(r)
	left.expectUntouched(t, "Split, by the right page,")
	scribble(l)
	w.expectUntouched(t, "Split, by its results,")
	return left.was, other.was, separator, ok
}

func check(t *testing.T, p api.Page, fanout int) bool {
	t.Helper()
	w := watch(p)
	ok := Check(p, fanout)
	w.expectUntouched(t, "Check")
	return ok
}

// numbered returns n ascending keys.
func numbered(n int) []string {
	var all []string
	for i := range n {
		all = append(all, string([]byte{'k', byte(i >> 8), byte(i)}))
	}
	return all
}

// P7.1
func TestCheckValid(t *testing.T) {
	long := strings.Repeat("k", api.MaxKey+1)
	for i, p := range []api.Page{
		lastPage(0),
		lastPage(0, ""),
		lastPage(0, "", "a", "b"),
		lastPage(1, ""),
		lastPage(1, "b"),
		lastPage(math.MaxInt, "", "\x00"),
		lastPage(0, "a", "a\x00", "a\xff"),
		lastPage(0, "\x7f", "\x80", "\xff"),
		lastPage(0, "apple", long, long+"k"),
		inside(0, "c", "a", "b"),
		inside(0, "b\x00", "a", "b"),
		inside(2, "\x00", ""),
		inside(0, long+"\x00", "a", long),
		inside(0, "", []string{}...),
		inside(0, "x"),
		{Level: 0, Slots: nil, Last: false, High: "", Right: math.MaxUint64},
		{Slots: []api.Slot{{Key: "a", Ref: 1}, {Key: "b", Ref: 1}, {Key: "c", Ref: math.MaxUint64}}, Last: true},
	} {
		for _, fanout := range []int{3, 4, 33, math.MaxInt} {
			if !check(t, p, fanout) {
				t.Errorf("P7.1: page %d is not valid for %d: %#v", i, fanout, p)
			}
		}
	}
}

// P7.1: pages with one fault each.
func TestCheckInvalid(t *testing.T) {
	for i, p := range []api.Page{
		lastPage(-1, "a"),
		lastPage(-1),
		lastPage(math.MinInt, "a"),
		inside(-1, "c", "a", "b"),
		lastPage(1),
		lastPage(math.MaxInt),
		inside(1, "a"),
		lastPage(0, "a", "a"),
		lastPage(0, "", ""),
		lastPage(0, "b", "a"),
		lastPage(0, "a", "b", "b"),
		lastPage(0, "a", "a", "b"),
		lastPage(0, "a", "c", "b"),
		lastPage(0, "b", "a", "c"),
		lastPage(0, "a\x00", "a"),
		lastPage(0, "\x80", "\x7f"),
		lastPage(0, "ab", "aa\xff"),
		inside(0, "b", "a", "b"),
		inside(0, "a", "a", "b"),
		inside(0, "ab", "a", "b"),
		inside(0, "", "a"),
		inside(0, "", ""),
		inside(1, "a", "a"),
		{High: "x"},
		{},
		{Slots: slotsOf("a"), High: "b"},
		{Level: 1, Slots: slotsOf("a"), High: "b"},
		{Last: true, High: "x"},
		{Last: true, Right: 1},
		{Last: true, Right: math.MaxUint64},
		{Slots: slotsOf("a"), Last: true, High: "b"},
		{Slots: slotsOf("a"), Last: true, High: "\x00"},
		{Slots: slotsOf("a"), Last: true, Right: 1 << 32},
		{Slots: slotsOf("a"), Last: true, High: "b", Right: 1},
	} {
		for _, fanout := range []int{3, 4, 32, math.MaxInt} {
			if check(t, p, fanout) {
				t.Errorf("P7.1: page %d is valid for %d: %#v", i, fanout, p)
			}
		}
	}
}

// P7.1: a page has at most fanout slots, whatever the fanout is.
func TestCheckFanout(t *testing.T) {
	for n := range 70 {
		p := lastPage(0, numbered(n)...)
		for fanout := -2; fanout <= 72; fanout++ {
			if got := check(t, p, fanout); got != (n <= fanout) {
				t.Errorf("P7.1: %d slots and the fanout %d: %v", n, fanout, got)
			}
		}
		if check(t, p, math.MinInt) || !check(t, p, math.MaxInt) {
			t.Errorf("P7.1: %d slots and an extreme fanout", n)
		}
	}
}

// P7.1: each slot counts, the first and the last ones too.
func TestCheckEachSlot(t *testing.T) {
	for n := 1; n <= 33; n++ {
		for i := range n {
			p := inside(3, "l", numbered(n)...)
			if !check(t, p, n) {
				t.Errorf("P7.1: %d slots are not valid", n)
			}
			p.Slots[i].Ref = 0
			if check(t, p, n) {
				t.Errorf("P7.1: slot %d of %d has no reference", i, n)
			}
			p.Slots[i].Ref = 1 << 63
			if !check(t, p, n) {
				t.Errorf("P7.1: slot %d of %d has a great reference", i, n)
			}
			p.Slots[i].Key = "l"
			if check(t, p, n) {
				t.Errorf("P7.1: slot %d of %d has the high key", i, n)
			}
			if i > 0 {
				p.Slots[i].Key = p.Slots[i-1].Key
				if check(t, p, n) {
					t.Errorf("P7.1: slots %d and %d of %d have the same key", i-1, i, n)
				}
			}
		}
	}
}

// valid is P7.1 as it reads, with each key compared with each other one.
func valid(p api.Page, fanout int) bool {
	ok := p.Level >= 0 && len(p.Slots) <= fanout
	if p.Level > 0 {
		ok = ok && len(p.Slots) >= 1
	}
	for i, s := range p.Slots {
		ok = ok && s.Ref != 0
		for _, later := range p.Slots[i+1:] {
			ok = ok && s.Key < later.Key
		}
		if !p.Last {
			ok = ok && s.Key < p.High
		}
	}
	if p.Last {
		return ok && p.High == "" && p.Right == 0
	}
	return ok && p.Right != 0
}

// lists returns all lists of at most n of the keys, in any order and with repetitions.
func lists(n int, keys []string) [][]string {
	all := [][]string{nil}
	last := all
	for range n {
		var longer [][]string
		for _, list := range last {
			for _, key := range keys {
				longer = append(longer, append(slices.Clone(list), key))
			}
		}
		all = append(all, longer...)
		last = longer
	}
	return all
}

// P7.1: all small pages, valid ones and others.
func TestCheckAll(t *testing.T) {
	for _, list := range lists(3, []string{"", "a", "b"}) {
		for refs := range 1 << len(list) {
			for rest := range 48 {
				p := api.Page{Level: rest%3 - 1, Slots: slotsOf(list...), Last: rest/3%2 == 1, Right: uint64(rest / 6 % 2 * 9)}
				p.High = []string{"", "a", "b", "b\x00"}[rest/12]
				for i := range list {
					p.Slots[i].Ref = uint64(refs >> i & 1)
				}
				for fanout := range 5 {
					if got, want := check(t, p, fanout), valid(p, fanout); got != want {
						t.Errorf("P7.1: page %#v, fanout %d: %v", p, fanout, got)
					}
				}
			}
		}
	}
}

// universe contains keys in ascending order: the least one, beginnings of others, zero bytes, and bytes that are not UTF-8.
var universe = []string{"", "\x00", "a", "a\x00", "ab", "b", "\x80", "\xff", "\xff\xff"}

// subset returns the keys whose bits are set.
func subset(keys []string, bits int) []string {
	var all []string
	for i, key := range keys {
		if bits>>i&1 == 1 {
			all = append(all, key)
		}
	}
	return all
}

// expectSearch reports an error if Find, Child or Below is not what P7.2 says, by a count of the slots one by one.
func expectSearch(t *testing.T, p api.Page, key string) {
	t.Helper()
	less, has := 0, false
	var child, below, last api.Slot
	for _, s := range p.Slots {
		if s.Key < key {
			less++
			below = s
		}
		if s.Key <= key {
			child = s
		}
		has = has || s.Key == key
		last = s
	}
	w := watch(p)
	if n, in := Find(p, key); n != less || in != has {
		t.Errorf("P7.2: Find(%#v, %q) is %d, %v", p, key, n, in)
	}
	if s, ok := Child(p, key); s != child || ok != (child.Ref != 0) {
		t.Errorf("P7.2: Child(%#v, %q) is %#v, %v", p, key, s, ok)
	}
	if s, ok := Below(p, key, false); s != below || ok != (below.Ref != 0) {
		t.Errorf("P7.2: Below(%#v, %q, false) is %#v, %v", p, key, s, ok)
	}
	if s, ok := Below(p, key, true); s != last || ok != (last.Ref != 0) {
		t.Errorf("P7.2: Below(%#v, %q, true) is %#v, %v", p, key, s, ok)
	}
	w.expectUntouched(t, "a search")
}

// P7.2: all pages with keys of the universe, and all of its keys.
func TestSearchAll(t *testing.T) {
	for bits := range 1 << len(universe) {
		keys := subset(universe, bits)
		for _, p := range []api.Page{lastPage(0, keys...), inside(0, "\xff\xff\xff", keys...), lastPage(2, keys...)} {
			for _, key := range universe {
				expectSearch(t, p, key)
			}
		}
	}
}

// P7.2: pages of every size, and more slots than a node may have.
func TestSearchSizes(t *testing.T) {
	for _, n := range []int{0, 1, 2, 3, 4, 5, 7, 8, 9, 31, 32, 33, 64, 500} {
		p := lastPage(1, numbered(n)...)
		for _, key := range numbered(n) {
			expectSearch(t, p, key)
			expectSearch(t, p, key+"\x00")
			expectSearch(t, p, key[:2])
		}
		expectSearch(t, p, "")
		expectSearch(t, p, strings.Repeat("z", api.MaxKey+1))
	}
}

// P7.2: the searches ask for the slots alone, not for the bounds, the level or the references.
func TestSearchAsksForSlotsOnly(t *testing.T) {
	p := inside(-3, "a", "b", "d", "f")
	p.Slots[1].Ref = 0
	for _, c := range []struct {
		key          string
		at           int
		in           bool
		child, below string
	}{
		{"a", 0, false, "", ""}, {"b", 0, true, "b", ""}, {"c", 1, false, "b", "b"}, {"d", 1, true, "d", "b"},
		{"e", 2, false, "d", "d"}, {"f", 2, true, "f", "d"}, {"g", 3, false, "f", "f"},
	} {
		at, in := Find(p, c.key)
		s, ok := Child(p, c.key)
		b, is := Below(p, c.key, false)
		if at != c.at || in != c.in || s.Key != c.child || ok != (c.child != "") || b.Key != c.below || is != (c.below != "") {
			t.Errorf("P7.2: key %q: %d, %v, %#v, %v, %#v, %v", c.key, at, in, s, ok, b, is)
		}
	}
	if s, ok := Child(lastPage(0, ""), ""); s != (api.Slot{Key: "", Ref: 100}) || !ok {
		t.Errorf("P7.2: the empty key has the child %#v, %v", s, ok)
	}
}

// Rule 1: with keys that are not ascending, the functions terminate and do not panic, and their arguments stay as they are.
func TestNotAscending(t *testing.T) {
	keys := []string{"", "a", "b"}
	for _, list := range lists(5, keys) {
		p := lastPage(len(list)%3-1, list...)
		w := watch(p)
		for _, key := range append(keys, "c") {
			Find(p, key)
			Child(p, key)
			Below(p, key, false)
			Below(p, key, true)
			insert(t, p, key, 5)
			remove(t, p, []string{key})
		}
		split(t, p, 0)
		w.expectUntouched(t, "a function")
	}
}
