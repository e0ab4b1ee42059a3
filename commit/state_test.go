package commit

import (
	"slices"
	"strings"

	"blinktree/api"
	"blinktree/page"
)

// entry is what must be in a record: the stamp, the value or Delete, and the next older record.
type entry struct {
	api.Version
	next uint64
}

// limits are the numbers of things that there may be.
type limits struct {
	nodes, chains, records int
	clock                  uint64
}

// plenty is more than any test needs.
func plenty() limits { return limits{api.MaxNodes, api.MaxChains, api.MaxRecords, api.MaxClock} }

// state is what must be in a database in which nothing is in progress, by what the chapter says, without machines and latches.
type state struct {
	tree
	heads   []uint64 // the newest record of chain c has the index c - 1
	records []entry  // record r has the index r - 1
	time    uint64   // the last timestamp, which is allocated and published
	limits  limits
}

// emptyState returns an empty database.
func emptyState(fanout int) *state {
	s := &state{tree: tree{nodes: []api.Held{{ID: 1, Page: api.Page{Last: true}}}, root: 1, fanout: fanout}}
	s.limit(plenty())
	return s
}

// limit sets the limits.
func (s *state) limit(n limits) { s.limits, s.tree.limit = n, n.nodes }

// limitLeft sets the limits to what is in use and some more of each, but at least to 1.
func (s *state) limitLeft(nodes, chains, records, times int) {
	n := limits{len(s.nodes) + nodes, max(len(s.heads)+chains, 1), max(len(s.records)+records, 1), max(s.time+uint64(times), 1)}
	s.limit(n)
}

// copy returns a state that does not change with this one.
func (s *state) copy() *state {
	c := *s
	c.nodes, c.heads, c.records = slices.Clone(s.nodes), slices.Clone(s.heads), slices.Clone(s.records)
	return &c
}

// chain returns the versions of a chain.
func (s *state) chain(c uint64) []api.Version {
	var list []api.Version
	for r := s.heads[c-1]; r != 0; r = s.records[r-1].next {
		list = append(list, s.records[r-1].Version)
	}
	return list
}

// event is something that a batch does to a cell: what it does, to which node, chain or record, and with which number.
type event struct {
	what  string
	n, to uint64
}

// What a batch does.
const (
	lockNode     = "locks a node"
	changeNode   = "has changed a node"
	releaseNode  = "releases a node"
	takeNode     = "takes a node"
	takeChain    = "takes a chain"
	takeRecord   = "takes a record"
	setHead      = "sets the newest record of a chain"
	stampRecord  = "stamps a record"
	allocateTime = "allocates a timestamp"
	publishTime  = "publishes a timestamp"
)

// trial is a batch that is applied to a state.
type trial struct {
	*state
	answer    api.Answer
	events    []event // up to the last release of a leaf
	effect    int     // how many of them there are after the step in which the batch takes effect
	locked    []uint64
	jobs      []job
	installed []version
	skipped   int    // how many writes have nothing to delete
	missing   string // the event that was not possible, if the batch fails
	unposted  int    // how many new leaves a node is missing for
}

// apply applies a normal batch.
func (s *state) apply(b []api.Write) *trial {
	x := &trial{state: s}
	for _, w := range b {
		if x.perform(w); x.missing != "" {
			return x.fail(api.ErrFull)
		}
	}
	if s.time >= s.limits.clock {
		x.missing = allocateTime
		return x.fail(api.ErrClock)
	}
	s.time++
	x.note(allocateTime, 0, s.time)
	for _, v := range x.installed {
		s.records[v.record-1].Stamp = s.time
		x.note(stampRecord, v.record, s.time)
	}
	x.note(publishTime, 0, s.time)
	x.answer, x.effect = api.Answer{Time: s.time}, len(x.events)
	return x.leave()
}

// note notes an event.
func (x *trial) note(what string, n, to uint64) { x.events = append(x.events, event{what, n, to}) }

// perform performs a write.
func (x *trial) perform(w api.Write) {
	leaf := x.covering(leafLevel, w.Key)
	if !slices.Contains(x.locked, leaf) {
		x.locked = append(x.locked, leaf)
		x.note(lockNode, leaf, 0)
	}
	p := x.at(leaf).Page
	i, in := page.Find(p, w.Key)
	switch {
	case in:
		x.put(p.Slots[i].Ref, w)
	case w.Delete:
		x.skipped++
	case len(x.heads) >= x.limits.chains:
		x.missing = takeChain
	default:
		x.heads = append(x.heads, 0)
		x.note(takeChain, 0, uint64(len(x.heads)))
		x.putNew(leaf, w)
	}
}

// putNew performs a write of a key that is not in its leaf. The new chain has been taken.
func (x *trial) putNew(leaf uint64, w api.Write) {
	c := uint64(len(x.heads))
	j, enough := x.enter(job{leafLevel, w.Key, c})
	if !enough {
		x.missing = takeNode
		return
	}
	if j.child != 0 {
		x.jobs = append(x.jobs, j)
		x.locked = append(x.locked, j.child)
		x.note(takeNode, 0, j.child)
		x.note(lockNode, j.child, 0)
	}
	x.note(changeNode, leaf, 0)
	x.put(c, w)
}

// put puts a version on top of a chain.
func (x *trial) put(c uint64, w api.Write) {
	if len(x.records) >= x.limits.records {
		x.missing = takeRecord
		return
	}
	old := x.heads[c-1]
	x.records = append(x.records, entry{api.Version{Value: w.Value, Delete: w.Delete}, old})
	r := uint64(len(x.records))
	x.note(takeRecord, 0, r)
	x.heads[c-1] = r
	x.note(setHead, c, r)
	x.installed = append(x.installed, version{c, r, old})
}

// fail takes the versions back.
func (x *trial) fail(err api.Errno) *trial {
	x.answer, x.effect = api.Answer{Err: err}, len(x.events)
	for _, v := range slices.Backward(x.installed) {
		x.heads[v.chain-1] = v.old
		x.note(setHead, v.chain, v.old)
	}
	return x.leave()
}

// leave releases the leaves, and posts the new ones.
func (x *trial) leave() *trial {
	for _, id := range x.locked {
		x.note(releaseNode, id, 0)
	}
	for _, j := range x.jobs {
		if !x.post(j) {
			x.unposted++
		}
	}
	return x
}

// batch returns a normal batch of n writes of some keys.
func (g *dice) batch(keys []string, n int) []api.Write {
	var b []api.Write
	for _, key := range shuffled(g, keys)[:n] {
		w := api.Write{Key: key}
		switch g.roll(8) {
		case 0, 1:
			w.Delete = true
		case 2:
			w.Value = strings.Repeat("v", g.roll(api.MaxValue+1))
		default:
			w.Value = string(rune('a'+g.roll(26))) + key
		}
		b = append(b, w)
	}
	slices.SortFunc(b, func(v, w api.Write) int { return strings.Compare(v.Key, w.Key) })
	return b
}

// newState returns the database of a seed: some batches have been applied, of which some have failed and left slots with empty chains,
// some of the new leaves have not been posted, and some slots have been removed.
func newState(seed, fanout int) *state {
	g := newDice(seed)
	s := emptyState(fanout)
	some := shuffled(g, universe())[:20+g.roll(100)]
	for range g.roll(30) {
		if g.roll(4) == 0 {
			s.limitLeft(g.roll(3), 99, g.roll(9), g.roll(2))
		}
		s.apply(g.batch(some, g.roll(9)))
		s.limit(plenty())
		if g.roll(12) == 0 {
			s.vacuum()
		}
	}
	for i := range s.nodes {
		s.nodes[i].Word = 4 * uint64(g.roll(1000))
	}
	return s
}

// vacuum removes the slots of keys that have no value now.
func (s *state) vacuum() {
	for _, h := range s.row(leafLevel) {
		var gone []string
		for _, x := range h.Page.Slots {
			if list := s.chain(x.Ref); len(list) == 0 || list[0].Delete {
				gone = append(gone, x.Key)
			}
		}
		s.at(h.ID).Page = page.Remove(h.Page, gone)
	}
}
