package node

import (
	"blinktree/api"
	"blinktree/layout"
	"blinktree/memory"
)

// The cells of a page in the order in which they are read: how many of them come before each.
const (
	headCell = iota
	highCell
	rightCell
	firstSlot
)

// noHigh is the M of the cell High of a node that has no high key.
const noHigh = 1

// content is the page of a node while its cells, all but the latch, are read one after the other.
type content struct {
	l    layout.Layout
	id   uint64
	read int // the number of cells that have been read
	end  int // the number of cells that are to be read, as Head says
	page api.Page
}

// restart forgets what has been read.
func (c *content) restart() { *c = content{l: c.l, id: c.id} }

// load loads the next cell, and reports whether it was the last one.
func (c *content) load(m *memory.Memory) bool { return c.take(m.Load(c.address())) }

// address returns the address of the next cell.
func (c *content) address() int {
	switch c.read {
	case headCell:
		return c.l.Head(c.id)
	case highCell:
		return c.l.High(c.id)
	case rightCell:
		return c.l.Right(c.id)
	}
	return c.l.Slot(c.id, c.read-firstSlot)
}

// take takes what is in the next cell into the page, and reports whether it was the last one.
func (c *content) take(x api.Cell) bool {
	switch c.read {
	case headCell:
		c.page.Level = int(x.M)
		// A memory that is examined may contain any number, but there are no more slots than this.
		c.end = firstSlot + int(min(x.N, uint64(c.l.Config().Fanout)))
	case highCell:
		c.page.High, c.page.Last = x.K, x.M == noHigh
	case rightCell:
		c.page.Right = x.N
	default:
		c.page.Slots = append(c.page.Slots, api.Slot{Key: x.K, Ref: x.N})
	}
	c.read++
	return c.read == c.end
}

// store says what is to be stored in the cell with an address.
type store struct {
	address int
	cell    api.Cell
}

// latchStore returns the store of the word of a node.
func latchStore(l layout.Layout, h api.Held) store { return store{l.Latch(h.ID), api.Cell{N: h.Word}} }

// pageStores returns the stores of a page into a node. Those of two pages have the same order.
func pageStores(l layout.Layout, id uint64, p api.Page) []store {
	list := []store{
		{l.Head(id), api.Cell{N: uint64(len(p.Slots)), M: uint64(p.Level)}},
		{l.High(id), highOf(p)},
		{l.Right(id), api.Cell{N: p.Right}},
	}
	for i, s := range p.Slots {
		list = append(list, store{l.Slot(id, i), api.Cell{N: s.Ref, K: s.Key}})
	}
	return list
}

// highOf returns what is to be stored in the cell High for a page.
func highOf(p api.Page) api.Cell {
	if p.Last {
		return api.Cell{M: noHigh}
	}
	return api.Cell{K: p.High}
}

// changes returns the stores that change a page to another one. Cells of slots that are gone stay as they are, since Head says
// that they have no meaning.
func changes(from, to []store) []store {
	var list []store
	for i, s := range to {
		if i >= len(from) || s != from[i] {
			list = append(list, s)
		}
	}
	return list
}

// stores makes stores one after the other, and has a result after the last one.
type stores struct {
	list []store
	made int
	held api.Held
}

// step makes the next store until all have been made, and reports whether they have.
func (s *stores) step(m *memory.Memory) bool {
	if !s.finished() {
		next := s.list[s.made]
		m.Store(next.address, next.cell)
		s.made++
	}
	return s.finished()
}

// finished reports whether all stores have been made.
func (s *stores) finished() bool { return s.made == len(s.list) }

// result returns the node as the stores have left it, or zero before that.
func (s *stores) result() api.Held {
	if !s.finished() {
		return api.Held{}
	}
	h := s.held
	h.Page = copied(h.Page)
	return h
}

// copied returns a copy of a page that shares no slots with it.
func copied(p api.Page) api.Page {
	p.Slots = append([]api.Slot(nil), p.Slots...)
	return p
}
