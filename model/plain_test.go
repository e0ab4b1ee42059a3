package model

import (
	"maps"
	"slices"
	"sort"
	"testing"

	"blinktree/api"
)

// plain is a model that is as simple as possible: it keeps all entries at each time, and does not know batch or Model.
type plain struct {
	states []map[string]string
	floor  uint64
	open   map[[2]int]uint64
}

// newPlain returns a plain model without batches.
func newPlain() *plain {
	return &plain{states: []map[string]string{{}}, open: map[[2]int]uint64{}}
}

// time returns the number of batches.
func (p *plain) time() uint64 { return uint64(len(p.states) - 1) }

// apply performs the writes of a batch one after the other.
func (p *plain) apply(b []api.Write) {
	next := maps.Clone(p.states[p.time()])
	for _, w := range b {
		if w.Delete {
			delete(next, w.Key)
		} else {
			next[w.Key] = w.Value
		}
	}
	p.states = append(p.states, next)
}

// at returns the entries at a time, or the present ones if there is no such time yet.
func (p *plain) at(time uint64) map[string]string {
	if time > p.time() {
		time = p.time()
	}
	return p.states[time]
}

// list returns the entries at a time in ascending order.
func (p *plain) list(time uint64) []api.Entry {
	var list []api.Entry
	for key, value := range p.at(time) {
		list = append(list, api.Entry{Key: key, Value: value})
	}
	sort.Slice(list, func(i, j int) bool { return list[i].Key < list[j].Key })
	return list
}

// snapshots returns the timestamps of the open snapshots in ascending order.
func (p *plain) snapshots() []uint64 {
	var list []uint64
	for _, time := range p.open {
		list = append(list, time)
	}
	sort.Slice(list, func(i, j int) bool { return list[i] < list[j] })
	return list
}

// watermark returns the first snapshot, or the present time if there is none.
func (p *plain) watermark() uint64 {
	if all := p.snapshots(); len(all) > 0 {
		return all[0]
	}
	return p.time()
}

// raise raises the floor, or returns false.
func (p *plain) raise(w uint64) bool {
	if w > p.watermark() {
		return false
	}
	if w > p.floor {
		p.floor = w
	}
	return true
}

// pair is a model and a plain model with the same past.
type pair struct {
	m *Model
	p *plain
}

// newPair returns a pair without a past.
func newPair() pair { return pair{New(), newPlain()} }

// apply applies a batch, and overwrites it afterwards, since no model may keep it.
func (x pair) apply(t *testing.T, b []api.Write) {
	t.Helper()
	room := append(make([]api.Write, 0, len(b)+2), b...)
	room = append(room, api.Write{Key: "behind"}, api.Write{Key: "the end"})
	was := slices.Clone(room)
	got := x.m.Apply(room[:len(b)])
	if !slices.Equal(room, was) {
		t.Fatalf("rule 3: Apply modified its argument %v: %v", was, room)
	}
	for i := range room {
		room[i] = api.Write{Key: "overwritten", Value: "w"}
	}
	x.p.apply(b)
	if got != x.p.time() {
		t.Fatalf("P21.2: Apply of %v is %d, not %d", b, got, x.p.time())
	}
}

// open opens a snapshot.
func (x pair) open(t *testing.T, thread, j int) {
	t.Helper()
	x.p.open[[2]int{thread, j}] = x.p.time()
	if got := x.m.Open(thread, j); got != x.p.time() {
		t.Fatalf("P21.3: Open(%d, %d) is %d, not %d", thread, j, got, x.p.time())
	}
}

// release closes a snapshot.
func (x pair) release(thread, j int) {
	delete(x.p.open, [2]int{thread, j})
	x.m.Release(thread, j)
}

// raise raises the floor, and returns whether it was possible.
func (x pair) raise(t *testing.T, w uint64) bool {
	t.Helper()
	want := x.p.raise(w)
	if got := x.m.Raise(w); got != want {
		t.Fatalf("P21.4: Raise(%d) is %v; snapshots %v, time %d", w, got, x.p.snapshots(), x.p.time())
	}
	return want
}

// expectNumbers reports an error if the model's numbers are not those of the plain model.
func (x pair) expectNumbers(t *testing.T) {
	t.Helper()
	if got := x.m.Time(); got != x.p.time() {
		t.Fatalf("P21.1: Time is %d, not %d", got, x.p.time())
	}
	if got := x.m.Floor(); got != x.p.floor {
		t.Fatalf("P21.1, P21.4: Floor is %d, not %d", got, x.p.floor)
	}
	if got := x.m.Watermark(); got != x.p.watermark() {
		t.Fatalf("P21.3: Watermark is %d, not %d", got, x.p.watermark())
	}
	got := x.m.Snapshots()
	if !slices.Equal(got, x.p.snapshots()) {
		t.Fatalf("P21.3: Snapshots is %v, not %v", got, x.p.snapshots())
	}
	for i := range got[:cap(got)] {
		got[:cap(got)][i] = 77
	}
	if again := x.m.Snapshots(); !slices.Equal(again, x.p.snapshots()) {
		t.Fatalf("rule 3: after its result was overwritten, Snapshots is %v", again)
	}
}

// expectState reports an error if the model's entries at a time, or the values of some keys, are not those of the plain model.
func (x pair) expectState(t *testing.T, time uint64, keys []string) {
	t.Helper()
	want := x.p.list(time)
	got := x.m.List(time)
	if !slices.Equal(got, want) {
		t.Fatalf("P21.2: List(%d) of %d batches is %v, not %v", time, x.p.time(), got, want)
	}
	for i := range got[:cap(got)] {
		got[:cap(got)][i] = api.Entry{Key: "overwritten", Value: "e"}
	}
	if again := x.m.List(time); !slices.Equal(again, want) {
		t.Fatalf("rule 3: after its result was overwritten, List(%d) is %v", time, again)
	}
	for _, key := range keys {
		value, has := x.p.at(time)[key]
		if v, ok := x.m.Get(key, time); v != value || ok != has {
			t.Fatalf("P21.2: Get(%q, %d) of %d batches is %q, %v, not %q, %v", key, time, x.p.time(), v, ok, value, has)
		}
	}
}

// expectAll reports an error if the model differs from the plain one at any time.
func (x pair) expectAll(t *testing.T, keys []string) {
	t.Helper()
	x.expectNumbers(t)
	for time := range x.p.time() + 3 {
		x.expectState(t, time, keys)
	}
	x.expectState(t, 1<<63, keys)
	x.expectState(t, 1<<64-1, keys)
}
