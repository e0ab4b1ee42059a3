package model

import (
	"maps"
	"slices"
)

// snapshot names a snapshot: the thread that it belongs to, and its number there.
type snapshot struct{ thread, number int }

// Open opens snapshot j of a thread at the present time, in place of an open one, and returns the time.
func (m *Model) Open(thread, j int) uint64 {
	m.snapshots[snapshot{thread, j}] = m.time
	return m.time
}

// Release closes snapshot j of a thread, if it is open.
func (m *Model) Release(thread, j int) { delete(m.snapshots, snapshot{thread, j}) }

// Snapshots returns the timestamps of all open snapshots in ascending order.
func (m *Model) Snapshots() []uint64 { return slices.Sorted(maps.Values(m.snapshots)) }

// Watermark returns the least timestamp of all open snapshots and the present time.
func (m *Model) Watermark() uint64 {
	least := m.time
	for _, time := range m.snapshots {
		least = min(least, time)
	}
	return least
}

// Raise raises the floor to w, unless it is there already, and reports whether w is at most the watermark; if it is not, nothing happens.
func (m *Model) Raise(w uint64) bool {
	if w > m.Watermark() {
		return false
	}
	m.floor = max(m.floor, w)
	return true
}
