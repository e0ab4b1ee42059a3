package model

import (
	"slices"
	"strings"
	"testing"

	"blinktree/api"
)

// put returns a batch that gives values to keys, or deletes them if the value is "-".
func put(words ...string) []api.Write {
	var b []api.Write
	for i := 0; i < len(words); i += 2 {
		w := api.Write{Key: words[i], Value: words[i+1]}
		if w.Value == "-" {
			w = api.Write{Key: words[i], Delete: true}
		}
		b = append(b, w)
	}
	return b
}

// entries returns a list of entries.
func entries(words ...string) []api.Entry {
	var l []api.Entry
	for i := 0; i < len(words); i += 2 {
		l = append(l, api.Entry{Key: words[i], Value: words[i+1]})
	}
	return l
}

// after returns a model after some batches.
func after(batches ...[]api.Write) *Model {
	m := New()
	for _, b := range batches {
		m.Apply(b)
	}
	return m
}

// P21.1
func TestNew(t *testing.T) {
	m := New()
	if m.Time() != 0 || m.Floor() != 0 {
		t.Errorf("P21.1: a new model has the time %d and the floor %d", m.Time(), m.Floor())
	}
	if got := m.Snapshots(); len(got) != 0 || m.Watermark() != 0 {
		t.Errorf("P21.1: a new model has the snapshots %v and the watermark %d", got, m.Watermark())
	}
	for _, time := range []uint64{0, 1, 2, 1 << 40, 1 << 63, 1<<64 - 1} {
		if got := m.List(time); len(got) != 0 {
			t.Errorf("P21.1: List(%d) of a new model is %v", time, got)
		}
		for _, key := range []string{"", "a"} {
			if v, ok := m.Get(key, time); v != "" || ok {
				t.Errorf("P21.1: Get(%q, %d) of a new model is %q, %v", key, time, v, ok)
			}
		}
	}
}

// P21.1, P21.2, P21.3, P21.4: models have nothing in common.
func TestApart(t *testing.T) {
	a, b := New(), New()
	a.Apply(put("a", "1"))
	a.Apply(put("b", "1"))
	a.Open(0, 0)
	a.Raise(1)
	x := pair{b, newPlain()}
	x.expectAll(t, []string{"a", "b"})
	x.expectAll(t, nil)
	if c := New(); c.Time() != 0 || c.Floor() != 0 || len(c.List(9)) != 0 || len(c.Snapshots()) != 0 {
		t.Error("P21.1: a model that is made after another one was used is not new")
	}
	b.Release(0, 0)
	b.Apply(put("a", "2"))
	if !slices.Equal(a.Snapshots(), []uint64{2}) || !slices.Equal(a.List(9), entries("a", "1", "b", "1")) || a.Time() != 2 || a.Floor() != 1 {
		t.Error("P21.1: a model changed with another one")
	}
}

// P21.1, P21.2: Time counts batches, also those that are empty or change nothing.
func TestTime(t *testing.T) {
	m := New()
	for i, b := range [][]api.Write{nil, put("a", "1"), {}, put("a", "1"), put("b", "-"), put("a", "-", "a", "1"), put("a", "1", "b", "2", "c", "3"), nil} {
		if got := m.Apply(b); got != uint64(i+1) || m.Time() != got {
			t.Errorf("P21.2: batch %d: Apply is %d, Time is %d", i+1, got, m.Time())
		}
		if m.Floor() != 0 || len(m.Snapshots()) != 0 || m.Watermark() != m.Time() {
			t.Errorf("P21.1: after batch %d, the floor is %d, the watermark %d", i+1, m.Floor(), m.Watermark())
		}
	}
}

// P21.2, and the first example of the chapter.
func TestList(t *testing.T) {
	long, great := strings.Repeat("k", api.MaxKey), strings.Repeat("v", api.MaxValue)
	for i, c := range []struct {
		batches [][]api.Write
		time    uint64
		want    []api.Entry
	}{
		{[][]api.Write{put("a", "1"), put("a", "2")}, 1, entries("a", "1")},
		{[][]api.Write{put("a", "1"), put("a", "2")}, 2, entries("a", "2")},
		{[][]api.Write{put("a", "1"), put("a", "2")}, 3, entries("a", "2")},
		{[][]api.Write{put("a", "1"), put("a", "2")}, 1<<64 - 1, entries("a", "2")},
		{[][]api.Write{put("a", "1"), put("a", "2")}, 0, nil},
		{[][]api.Write{put("b", "1", "a", "2")}, 1, entries("a", "2", "b", "1")},
		{[][]api.Write{put("b", "1"), put("a", "2")}, 1, entries("b", "1")},
		{[][]api.Write{put("b", "1"), put("a", "2")}, 2, entries("a", "2", "b", "1")},
		{[][]api.Write{put("b", "1"), nil, put("b", "-")}, 2, entries("b", "1")},
		{[][]api.Write{put("b", "1"), nil, put("b", "-")}, 3, nil},
		{[][]api.Write{put("b", "1"), nil, put("b", "-")}, 4, nil},
		{[][]api.Write{put("b", "1"), put("b", "-"), put("b", "2")}, 2, nil},
		{[][]api.Write{put("b", "1"), put("b", "-"), put("b", "2")}, 3, entries("b", "2")},
		{[][]api.Write{put("b", "1"), put("b", "-"), put("c", "2")}, 3, entries("c", "2")},
		{[][]api.Write{put("b", "1", "b", "2", "b", "3")}, 1, entries("b", "3")},
		{[][]api.Write{put("b", "1", "b", "-")}, 1, nil},
		{[][]api.Write{put("b", "-", "b", "1")}, 1, entries("b", "1")},
		{[][]api.Write{put("a", "0"), put("b", "1", "a", "-", "b", "-", "c", "2")}, 2, entries("c", "2")},
		{[][]api.Write{put("b", "")}, 1, entries("b", "")},
		{[][]api.Write{put("b", "1"), put("b", "")}, 2, entries("b", "")},
		{[][]api.Write{put("", "1")}, 1, entries("", "1")},
		{[][]api.Write{put("", "")}, 1, entries("", "")},
		{[][]api.Write{put("", "1"), put("", "-")}, 2, nil},
		{[][]api.Write{put(long, great, "k", "1")}, 1, entries("k", "1", long, great)},
		{[][]api.Write{put("\xff", "1", "\x7f", "2", "\x80", "3", "", "4", "\x00", "5")}, 1, entries("", "4", "\x00", "5", "\x7f", "2", "\x80", "3", "\xff", "1")},
		{[][]api.Write{put("ab", "1", "a", "2", "a\x00", "3", "b", "4", "B", "5")}, 1, entries("B", "5", "a", "2", "a\x00", "3", "ab", "1", "b", "4")},
	} {
		m := after(c.batches...)
		if got := m.List(c.time); !slices.Equal(got, c.want) {
			t.Errorf("P21.2: row %d: List(%d) is %v, not %v", i, c.time, got, c.want)
		}
		for _, e := range c.want {
			if v, ok := m.Get(e.Key, c.time); v != e.Value || !ok {
				t.Errorf("P21.2: row %d: Get(%q, %d) is %q, %v", i, e.Key, c.time, v, ok)
			}
		}
	}
}

// P21.2: a key without a value, and how it differs from one whose value is empty.
func TestGet(t *testing.T) {
	m := after(put("a", "1"), put("b", "", "a", "-"), put("b", "-", "a", ""), put("a", "4"), nil)
	for i, c := range []struct {
		key   string
		time  uint64
		value string
		has   bool
	}{
		{"a", 0, "", false}, {"a", 1, "1", true}, {"a", 2, "", false}, {"a", 3, "", true}, {"a", 4, "4", true},
		{"a", 5, "4", true}, {"a", 6, "4", true}, {"a", 1 << 40, "4", true}, {"a", 1 << 63, "4", true}, {"a", 1<<64 - 1, "4", true},
		{"b", 0, "", false}, {"b", 1, "", false}, {"b", 2, "", true}, {"b", 3, "", false}, {"b", 4, "", false}, {"b", 1<<64 - 1, "", false},
		{"", 0, "", false}, {"", 3, "", false}, {"", 9, "", false}, {"ab", 4, "", false}, {"A", 4, "", false}, {"a\x00", 4, "", false},
		{strings.Repeat("a", 1<<20), 4, "", false},
	} {
		if v, ok := m.Get(c.key, c.time); v != c.value || ok != c.has {
			t.Errorf("P21.2: row %d: Get(%.9q, %d) is %q, %v", i, c.key, c.time, v, ok)
		}
	}
}

// P21.2: batches with as many writes as a batch may have.
func TestGreatest(t *testing.T) {
	x := newPair()
	var wide, same []api.Write
	var names []string
	for i := range api.MaxBatch {
		name := strings.Repeat(string(rune('z'-i)), api.MaxKey)
		names = append(names, name)
		wide = append(wide, api.Write{Key: name, Value: strings.Repeat(string(rune('a'+i)), api.MaxValue)})
		same = append(same, api.Write{Key: names[0], Value: string(rune('a' + i))})
	}
	x.apply(t, wide)
	x.apply(t, same)
	same[15] = api.Write{Key: names[0], Delete: true}
	x.apply(t, same)
	x.expectAll(t, names)
	if len(x.m.List(1)) != 16 || len(x.m.List(3)) != 15 {
		t.Errorf("P21.2: %d and %d entries after great batches", len(x.m.List(1)), len(x.m.List(3)))
	}
}

// P21.2: Get and List change nothing, in whatever order they are called.
func TestLookOnly(t *testing.T) {
	x := newPair()
	for _, b := range [][]api.Write{put("c", "1"), put("a", "2", "c", "-"), put("b", "3"), put("c", "4")} {
		x.apply(t, b)
	}
	x.open(t, 1, 2)
	names := []string{"c", "b", "a", "none", ""}
	for _, time := range []uint64{4, 0, 9, 2, 2, 1, 3, 1<<64 - 1, 0, 4} {
		x.expectState(t, time, names)
		x.expectNumbers(t)
	}
}

// Rule 1, P21.2: the results for a batch that does not pass batch.Check are not specified, but Apply returns, and the model can be used.
func TestInvalid(t *testing.T) {
	long, great := strings.Repeat("k", api.MaxKey+1), strings.Repeat("v", api.MaxValue+1)
	for i, b := range [][]api.Write{
		put(long, "1"), put("a", great), put(long, "-"), put("a", "1", long, great),
		{{Key: "a", Value: "1", Delete: true}}, {{Key: "a", Value: "1"}, {Key: "a", Value: "2", Delete: true}},
		slices.Repeat(put("a", "1"), api.MaxBatch+1), slices.Repeat(put("b", "-"), 1000),
	} {
		m := after(put("a", "0"))
		was := slices.Clone(b)
		got := m.Apply(b)
		if !slices.Equal(b, was) {
			t.Errorf("rule 3: row %d: Apply modified its argument", i)
		}
		// The reading that this package takes: such a batch is none.
		if got != 1 || m.Time() != 1 || !slices.Equal(m.List(9), entries("a", "0")) {
			t.Errorf("P21.2: row %d: after an invalid batch, the time is %d and the entries are %v", i, m.Time(), m.List(9))
		}
		if m.Apply(put("b", "1")) != 2 || !slices.Equal(m.List(2), entries("a", "0", "b", "1")) {
			t.Errorf("P21.2: row %d: a batch after an invalid one gives %v", i, m.List(2))
		}
	}
}
