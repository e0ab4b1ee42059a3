package commit

import (
	"slices"
	"strings"
	"testing"

	"blinktree/api"
	"blinktree/batch"
)

// fanouts are those that are tried, the least one included.
var fanouts = []int{api.MinFanout, 5, 7}

// features says what is special about a batch that has been applied.
func (x *trial) features(before *state) []string {
	var list []string
	note := func(is bool, name string) {
		if is {
			list = append(list, name)
		}
	}
	ok := x.answer.Err == api.OK
	note(ok, "success")
	note(ok && len(x.jobs) == 1, "split")
	note(ok && len(x.jobs) > 2, "many splits")
	note(ok && x.root != before.root, "growth")
	note(ok && len(x.locked) > 2, "many leaves")
	note(ok && x.skipped > 0, "nothing to delete")
	note(ok && len(x.installed) == 0, "nothing to write")
	note(ok && len(x.installed) > 9, "many writes")
	note(ok && x.unposted > 0, "success, but a leaf is not posted")
	note(!ok, "failure: "+x.missing)
	note(!ok && len(x.installed) > 2, "many versions are taken back")
	note(!ok && len(x.jobs) > 0 && x.unposted == 0, "failure after a split")
	note(!ok && x.unposted > 0, "failure, and a leaf is not posted")
	note(!ok && x.skipped > 0, "failure, and nothing to delete")
	return list
}

// limitFew sets the limits so that the batch and its Posts may find too few nodes, chains, records or timestamps, or enough of them.
func (s *state) limitFew(g *dice, b []api.Write) {
	nodes, chains, records, times := 99, 99, 99, 99
	leaves := len(s.copy().apply(b).jobs)
	if g.roll(3) == 0 {
		nodes = max(leaves+g.roll(3)-1, 0)
	}
	switch g.roll(6) {
	case 0:
		chains = g.roll(min(len(b), 9) + 1)
	case 1, 2:
		records = g.roll(len(b) + 1)
	case 3:
		times = 0
	}
	s.limitLeft(nodes, chains, records, times)
}

// sample is a database and a batch.
type sample struct {
	s *state
	b []api.Write
}

// samples calls a function with databases and batches, some of them with so few nodes, chains, records or timestamps left that the batch
// fails, or that new leaves cannot be posted.
func samples(t *testing.T, seeds int, try func(x sample)) {
	t.Helper()
	count := map[string]int{}
	for seed := range seeds {
		g := newDice(seed + 1000)
		s := newState(seed, fanouts[seed%3])
		some := universe()
		if seed%2 == 0 {
			some = shuffled(g, some)[:30]
		}
		b := g.batch(some, g.roll(2)*g.roll(5)+g.roll(13))
		s.limitFew(g, b)
		after := s.copy()
		for _, name := range after.apply(b).features(s) {
			count[name]++
		}
		try(sample{s, b})
	}
	for _, name := range []string{
		"success", "split", "many splits", "growth", "many leaves", "nothing to delete", "nothing to write", "many writes",
		"success, but a leaf is not posted", "failure: " + takeChain, "failure: " + takeNode, "failure: " + takeRecord,
		"failure: " + allocateTime, "many versions are taken back", "failure after a split", "failure, and a leaf is not posted",
		"failure, and nothing to delete",
	} {
		if count[name] < seeds/100 {
			t.Errorf("the test does too little: %d of %d samples are %q", count[name], seeds, name)
		}
	}
}

// P16.1, P16.2, P16.3, P16.4: what a batch does, in which order, and what is in the cells after it.
func TestBatches(t *testing.T) {
	samples(t, 800, func(x sample) {
		d, after := newDatabase(t, x.s), x.s.copy()
		want := after.apply(x.b)
		w := d.watch()
		b := slices.Clone(x.b)
		a := NewApply(d.l, b)
		if !slices.Equal(b, x.b) {
			t.Fatal("rule 3: the batch is changed")
		}
		clear(b)
		effect := -1
		d.each(t, a, func() {
			if w.look(); a.Marks() == 1 && effect < 0 {
				effect = len(w.events)
			}
		})
		if slices.ContainsFunc(b, func(w api.Write) bool { return w != api.Write{} }) {
			t.Fatal("rule 3: the batch is kept, and changed")
		}
		d.expectFinished(t, a, want.answer)
		w.expectEvents(t, want)
		if effect != want.effect {
			t.Fatalf("P16.2, P16.3, P16.4: the batch takes effect after %v", w.events[:effect])
		}
		d.expect(t, "P16.1, P16.2, P16.3", after)
	})
}

// P16.5: a chain, a record and a node for each write are enough, and one timestamp.
func TestEnough(t *testing.T) {
	splits := 0
	samples(t, 400, func(x sample) {
		for _, timesMore := range []int{0, 9} {
			x.s.limitLeft(len(x.b), len(x.b), len(x.b), 1+timesMore)
			after := x.s.copy()
			splits += len(after.apply(x.b).jobs)
			d := newDatabase(t, x.s)
			d.apply(t, api.Answer{Time: x.s.time + 1}, x.b...)
			d.expect(t, "P16.5", after)
		}
	})
	if splits < 300 {
		t.Errorf("the test does too little: %d splits", splits)
	}
}

// P16.5: if nothing is left, a batch that needs nothing succeeds: one whose deletions find nothing, and one without writes.
func TestNothingIsNeeded(t *testing.T) {
	s := letters("bdfhj")
	s.limitLeft(0, 0, 0, 2)
	d := newDatabase(t, s)
	b := []api.Write{{Key: "", Delete: true}, {Key: "c", Delete: true}, {Key: "z", Delete: true}}
	for _, b := range [][]api.Write{b, nil} {
		d.apply(t, s.apply(b).answer, b...)
		d.expect(t, "P16.1: nothing is needed", s)
	}
	if d.published() != 7 {
		t.Errorf("P16.1: %d is published", d.published())
	}
	d.apply(t, api.Answer{Err: api.ErrClock}, b...)
	d.apply(t, api.Answer{Err: api.ErrClock})
	d.apply(t, api.Answer{Err: api.ErrFull}, api.Write{Key: "b", Delete: true})
	d.expect(t, "P16.3: nothing is left", s)
}

// P16.3: whatever the counters are, if they are not less than the limits, nothing is left.
func TestCounters(t *testing.T) {
	for _, what := range []string{takeChain, takeNode, takeRecord, allocateTime} {
		for _, more := range []uint64{0, 1, 1 << 50, 1<<63 - 1, 1<<64 - 1 - 1<<17} {
			s := letters("bdfh")
			s.limitLeft(0, 1, 1, 0)
			d := newDatabase(t, s)
			want := api.Answer{Err: api.ErrFull}
			switch what {
			case takeChain:
				d.set(d.l.Chains(), uint64(s.limits.chains)+more)
			case takeNode:
				d.set(d.l.Nodes(), uint64(s.limits.nodes)+more)
			case takeRecord:
				d.set(d.l.Records(), uint64(s.limits.records)+more)
			case allocateTime:
				want.Err = api.ErrClock
				d.set(d.l.Allocated(), s.limits.clock+more)
			}
			before := d.m.Peek(d.counter(what))
			b := writes("c", "1")
			if what == allocateTime || what == takeRecord {
				b = writes("b", "1")
			}
			d.apply(t, want, b...)
			if d.m.Peek(d.counter(what)) != before {
				t.Fatalf("P16.3: the counter was %v, and is %v", before, d.m.Peek(d.counter(what)))
			}
			d.expectContents(t, "P16.3", 4, batch.Apply(nil, writes("bdfh", "old"))...)
		}
	}
}

// empty returns a small empty database.
func empty(t *testing.T) *database {
	t.Helper()
	s := emptyState(api.MinFanout)
	s.limit(limits{30, 20, 30, 20})
	return newDatabase(t, s)
}

// apply applies a batch.
func (d *database) apply(t *testing.T, want api.Answer, b ...api.Write) {
	t.Helper()
	d.run(t, NewApply(d.l, b), want)
}

// expectContents reports an error if the entries at a time are not these.
func (d *database) expectContents(t *testing.T, promise string, time uint64, want ...api.Entry) {
	t.Helper()
	if got := d.contents(time); !slices.Equal(got, want) {
		t.Fatalf("%s: at %d are %q, want %q", promise, time, got, want)
	}
}

// put returns a write of a value.
func put(key, value string) api.Write { return api.Write{Key: key, Value: value} }

// P16.1, P16.2: the example, and further batches.
func TestExample(t *testing.T) {
	d := empty(t)
	a := NewApply(d.l, []api.Write{put("a", "1"), put("b", "2")})
	if d.m.Accesses() != 0 || a.Marks() != 0 || a.Answer() != (api.Answer{}) {
		t.Error("P2.4, P16.4: before the first step")
	}
	d.run(t, a, api.Answer{Time: 1})
	d.apply(t, api.Answer{Time: 2}, put("a", "3"), api.Write{Key: "b", Delete: true}, put("c", ""))
	d.apply(t, api.Answer{Time: 3}, api.Write{Key: "d", Delete: true})
	d.apply(t, api.Answer{Time: 4})
	d.apply(t, api.Answer{Time: 5}, api.Write{Key: "b", Delete: true}, put("c", "4"))
	d.expectContents(t, "P16.2", 0)
	d.expectContents(t, "P16.2", 1, api.Entry{Key: "a", Value: "1"}, api.Entry{Key: "b", Value: "2"})
	for _, time := range []uint64{2, 3, 4} {
		d.expectContents(t, "P16.2", time, api.Entry{Key: "a", Value: "3"}, api.Entry{Key: "c"})
	}
	d.expectContents(t, "P16.2", 5, api.Entry{Key: "a", Value: "3"}, api.Entry{Key: "c", Value: "4"})
	// The second deletion of "b" is a version, since the leaf has a slot with it; the one of "d" is not.
	if d.m.Peek(d.l.Chains()).N != 3 || d.m.Peek(d.l.Records()).N != 7 || d.published() != 5 || d.m.Peek(d.l.Allocated()).N != 5 {
		t.Error("P16.1: the counters")
	}
}

// P16.4: an empty batch, nil or not, takes a timestamp, and nothing else.
func TestEmptyBatch(t *testing.T) {
	for _, b := range [][]api.Write{nil, {}} {
		d := empty(t)
		before := d.cells()
		d.apply(t, api.Answer{Time: 1}, b...)
		for _, i := range []int{d.l.Allocated(), d.l.Published()} {
			if d.m.Peek(i) != (api.Cell{N: 1}) {
				t.Errorf("P16.4: cell %d is %v", i, d.m.Peek(i))
			}
			d.m.Poke(i, before[i])
		}
		if !slices.Equal(d.cells(), before) {
			t.Error("P16.4: an empty batch changes something else")
		}
	}
}

// P16.1, P16.2: a batch of the greatest size with the longest keys and values, in trees of several fanouts. In a small one, the first leaf
// is split several times.
func TestLargeBatch(t *testing.T) {
	for fanout := api.MinFanout; fanout <= api.MaxFanout; fanout++ {
		s := emptyState(fanout)
		s.limitLeft(60, 40, 80, 9)
		d := newDatabase(t, s)
		for i := range 4 {
			var b []api.Write
			var want []api.Entry
			for k := range api.MaxBatch {
				// The third batch overwrites the first one, and the fourth one the second one.
				key := strings.Repeat("k", api.MaxKey-1) + string([]byte{byte(16*k + i%2)})
				b = append(b, put(key, strings.Repeat(string(rune('a'+i)), api.MaxValue)))
				want = append(want, api.Entry{Key: key, Value: b[k].Value})
			}
			x := s.apply(b)
			if want := (api.Answer{Time: uint64(i) + 1}); x.answer != want {
				t.Fatalf("P16.5: %v, want %v", x.answer, want)
			}
			d.apply(t, x.answer, b...)
			d.expect(t, "P16.1, P16.2: a large batch", s)
			if i == 0 {
				d.expectContents(t, "P16.2", 1, want...)
			}
			if i == 0 && fanout == api.MinFanout && len(x.jobs) < 4 {
				t.Fatal("the test does too little")
			}
		}
	}
}

// P16.1, P16.2: hundreds of batches in a row, so that the tree grows high.
func TestManyBatches(t *testing.T) {
	for _, fanout := range fanouts {
		g := newDice(fanout)
		s := emptyState(fanout)
		s.limitLeft(400, 121, 1200, 300)
		d := newDatabase(t, s)
		entries := [][]api.Entry{nil}
		for i := range 150 {
			b := g.batch(universe(), g.roll(9))
			x := s.apply(b)
			if x.answer.Err != api.OK || x.unposted > 0 {
				t.Fatalf("P16.5: batch %d: %v", i, x.answer)
			}
			d.apply(t, x.answer, b...)
			entries = append(entries, batch.Apply(entries[i], b))
			d.expectContents(t, "P16.2", uint64(i)+1, entries[i+1]...)
		}
		d.expect(t, "P16.1, P16.2: many batches", s)
		for time, want := range entries {
			d.expectContents(t, "P16.2: the past", uint64(time), want...)
		}
		if s.at(s.root).Page.Level < 2 {
			t.Fatal("the test does too little")
		}
	}
}
