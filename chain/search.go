package chain

import (
	"blinktree/api"
	"blinktree/layout"
	"blinktree/memory"
	"blinktree/record"
)

// The phases of a search.
const (
	toNewest = iota // it loads the number of the newest record
	toStamp         // it loads the stamp of the record to which it has come
	toOlder         // it loads the number of the next older record
	found           // it has come to the record that it looks for
	missing         // it has come to the end of the chain
)

// search goes along a chain, from the newest record on, to the first one that a read at a time sees. It skips pending ones: either
// they get a greater stamp than the time, or they are taken back.
type search struct {
	l              layout.Layout
	chain, time    uint64
	newest, record uint64
	stamp          uint64
	phase          int
}

// step makes one access until the search has come to its end, and returns the phase after that.
func (s *search) step(m *memory.Memory) int {
	switch s.phase {
	case toNewest:
		s.newest = m.Load(s.l.Chain(s.chain)).N
		s.goTo(s.newest)
	case toStamp:
		s.compare(m.Load(s.l.Stamp(s.record)).N)
	case toOlder:
		s.goTo(m.Load(s.l.Next(s.record)).N)
	}
	return s.phase
}

// goTo goes to a record, or to the end of the chain if that is 0.
func (s *search) goTo(r uint64) {
	s.record, s.phase = r, toStamp
	if r == 0 {
		s.phase = missing
	}
}

// compare compares the stamp of the record with the time.
func (s *search) compare(stamp uint64) {
	s.stamp, s.phase = stamp, toOlder
	if _, ok := record.Visible([]api.Version{{Stamp: stamp}}, s.time); ok {
		s.phase = found
	}
}

// empty reports whether the chain has no records.
func (s *search) empty() bool { return s.newest == 0 }

// onTop reports whether the record to which the search has come is the newest one.
func (s *search) onTop() bool { return s.record == s.newest }

// load loads the version that has been found, as a chain without any other one.
func (s *search) load(m *memory.Memory) []api.Version {
	return []api.Version{version(s.stamp, m.Load(s.l.Value(s.record)))}
}

// deleted is the M of the cell Value of a version with Delete.
const deleted = 1

// version returns the version with a stamp and with what is in the cell Value.
func version(stamp uint64, value api.Cell) api.Version {
	return api.Version{Stamp: stamp, Value: value.K, Delete: value.M == deleted}
}

// valueOf returns what is to be stored in the cell Value for a write.
func valueOf(w api.Write) api.Cell {
	if w.Delete {
		return api.Cell{M: deleted}
	}
	return api.Cell{K: w.Value}
}
