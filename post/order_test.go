package post

import (
	"slices"
	"testing"

	"blinktree/api"
	"blinktree/latch"
	"blinktree/node"
)

// known reports whether the memory has a way to a node: it is the root, or a sibling or a child of another one.
func (d *database) known(id uint64) bool {
	if d.m.Peek(d.l.Root()).N == id {
		return true
	}
	for other := uint64(1); other <= d.used(); other++ {
		p := node.Peek(d.l, d.m, other)
		if p.Right == id {
			return true
		}
		for _, s := range p.Slots {
			if p.Level > 0 && s.Ref == id {
				return true
			}
		}
	}
	return false
}

// owner returns the number of the node to which a cell belongs, or 0.
func (d *database) owner(cell int) uint64 {
	for id := uint64(1); id <= uint64(d.l.Config().Nodes); id++ {
		if first := d.l.Latch(id); first <= cell && cell < first+d.l.Config().Fanout+4 {
			return id
		}
	}
	return 0
}

// watch returns what is wrong about a change of a cell by a Post in a step. No other machine is at work.
func (d *database) watch(cell int, before, after api.Cell) string {
	id := d.owner(cell)
	switch {
	case cell == d.l.Nodes():
		if after != (api.Cell{N: before.N + 1}) {
			return "P13.2, P14.2: the number of nodes"
		}
	case cell == d.l.Grow():
		if before.N^after.N != 1 || after.N&^1 != growWord {
			return "P14.2: Grow is neither locked nor released"
		}
	case cell == d.l.Root():
		return d.watchRoot(before, after)
	case id == 0:
		return "P14.1, P14.2: a cell that does not belong to the tree"
	case cell == d.l.Latch(id):
		if latch.Locked(before.N) || latch.Lock(before.N) == after.N {
			return ""
		}
		if after.N != 1 || d.known(id) {
			return "P14.1: a latch is changed that is not locked"
		}
	case d.known(id) && !latch.Changing(d.word(id)):
		return "P14.1: a node is changed that is not changing"
	case !d.known(id) && id != d.used():
		return "P14.2: a node is written that is not the one that has been taken"
	}
	return ""
}

// watchRoot returns what is wrong about a change of Root.
func (d *database) watchRoot(before, after api.Cell) string {
	p := node.Peek(d.l, d.m, after.N)
	old := node.Peek(d.l, d.m, before.N)
	switch {
	case !latch.Locked(d.m.Peek(d.l.Grow()).N):
		return "P14.2: Root is changed, but Grow is not locked"
	case latch.Locked(d.word(after.N)):
		return "P14.2: the new root has not been released"
	case !p.Last || p.Right != 0 || p.High != "" || len(p.Slots) != 1 || p.Slots[0] != (api.Slot{Ref: before.N}) || p.Level != old.Level+1:
		return "P14.2: the page of the new root"
	}
	return ""
}

// change returns the address of the cell that is not as before, or -1.
func (d *database) change(before []api.Cell) int {
	for i, c := range before {
		if d.m.Peek(i) != c {
			return i
		}
	}
	return -1
}

// P14.1, P14.2: what each step of a Post changes, it may change. P14.4: after each step, all keys are found. Only while a node is changing,
// somebody who comes to it waits.
func TestEveryStep(t *testing.T) {
	waits := 0
	for _, s := range samples(3) {
		d, r := newDatabase(t, s.r), s.r.copy()
		want := r.post(s.j)
		p := d.begin(s.j)
		for steps := 0; ; steps++ {
			before := d.cells()
			finished := d.step(t, p)
			if i := d.change(before); i >= 0 {
				if wrong := d.watch(i, before[i], d.m.Peek(i)); wrong != "" {
					t.Fatalf("%s (%+v, step %d: cell %d was %v, and is %v)", wrong, s.kind, steps, i, before[i], d.m.Peek(i))
				}
			}
			waits += d.expectFoundUnlessChanging(t, s.r)
			if finished {
				break
			}
			if steps > patience {
				t.Fatal("P14.1, P14.2: a Post does not finish")
			}
		}
		d.expectFinished(t, p, want)
		d.expect(t, "P14.1, P14.2", r)
		d.expectFound(t, r)
	}
	if waits < 100 {
		t.Errorf("the test does too little: %d Finds wait", waits)
	}
}

// expectFoundUnlessChanging reports an error if a slot of a tree is not found although no node is changing, and returns how many are not.
func (d *database) expectFoundUnlessChanging(t *testing.T, r *tree) int {
	t.Helper()
	waits := 0
	for _, x := range d.lookAll(r) {
		if d.advance(t, x, patience); !x.done {
			waits++
		}
	}
	for id := uint64(1); id <= d.used(); id++ {
		if latch.Changing(d.word(id)) {
			return waits
		}
	}
	if waits > 0 {
		t.Fatalf("P14.4: %d keys are not found, but nothing is changing", waits)
	}
	return 0
}

// latches returns the addresses of latches that somebody else may lock: Grow, those of the nodes that a job changes or comes to, and that
// of another node.
func (d *database) latches(r *tree, j job) []int {
	list := []int{d.l.Grow()}
	after := r.copy()
	after.post(j)
	var path []uint64
	for level := j.level; len(r.row(level)) > 0; level++ {
		path = append(path, r.covering(level, j.separator))
	}
	others := 0
	for i, h := range r.nodes {
		if h.Word == after.nodes[i].Word && !slices.Contains(path, h.ID) {
			others++
			if others != 2 {
				continue
			}
		}
		list = append(list, d.l.Latch(h.ID))
	}
	return list
}

// expectOthersFree reports an error if a Post that waits for a latch has locked another one.
func (d *database) expectOthersFree(t *testing.T, k kind, but int) {
	t.Helper()
	all := []int{d.l.Grow()}
	for id := uint64(1); id <= d.used(); id++ {
		all = append(all, d.l.Latch(id))
	}
	for _, i := range all {
		if i != but && latch.Locked(d.m.Peek(i).N) {
			t.Fatalf("P14.3: a Post (%+v) waits for the latch in cell %d, and has locked the one in cell %d", k, but, i)
		}
	}
}

// P14.1, P14.2, P14.3: after each number of steps, somebody else locks a latch that is not locked. If the Post needs it, it waits, and has
// no other latch locked. When the latch is released, the Post goes on.
func TestWaits(t *testing.T) {
	waits := map[string]int{}
	for _, s := range samples(2) {
		start := newDatabase(t, s.r)
		r := s.r.copy()
		want := r.post(s.j)
		for _, i := range start.latches(s.r, s.j) {
			for steps := range patience {
				d := &database{start.l, start.m.Copy()}
				p := d.begin(s.j)
				if d.steps(t, p, steps) {
					break
				}
				if latch.Locked(d.m.Peek(i).N) {
					continue
				}
				if d.stepsBehind(t, p, s.kind, i) {
					d.expectFinished(t, p, want)
				} else {
					waits[d.name(i)]++
					d.run(t, p, want)
				}
				d.expect(t, "P14.1, P14.2", r)
			}
		}
	}
	for _, name := range []string{"Grow", "level 1", "level 2", "level 3"} {
		if waits[name] < 20 {
			t.Errorf("the test does too little: %d Posts wait for %s", waits[name], name)
		}
	}
	if waits["level 0"] > 0 {
		t.Error("P14.1: a Post waits for a leaf")
	}
}

// stepsBehind makes many steps of a Post while somebody else has locked the latch in a cell, and reports whether it has finished.
func (d *database) stepsBehind(t *testing.T, p *Post, k kind, cell int) bool {
	t.Helper()
	word := d.m.Peek(cell).N
	d.m.Poke(cell, api.Cell{N: latch.Lock(word)})
	finished := d.steps(t, p, patience)
	if d.m.Peek(cell).N != latch.Lock(word) {
		t.Fatalf("P14.1, P14.2: a Post (%+v) does not respect the latch in cell %d", k, cell)
	}
	if !finished {
		d.expectOthersFree(t, k, cell)
	}
	d.m.Poke(cell, api.Cell{N: word})
	return finished
}

// name says what the latch in a cell protects.
func (d *database) name(i int) string {
	if i == d.l.Grow() {
		return "Grow"
	}
	return "level " + string(rune('0'+node.Peek(d.l, d.m, d.owner(i)).Level))
}

// P14.2: somebody else grows the tree before the Post has locked Grow: then it does not.
func TestOthersGrow(t *testing.T) {
	tried := 0
	for seed := range 150 {
		r, jobs := newTree(seed, api.MinFanout, 0, 9)
		if len(jobs) < 2 || len(jobs) > 5 {
			continue
		}
		after := r.copy()
		for _, j := range []job{jobs[1], jobs[0]} {
			after.post(j)
		}
		for steps := range patience {
			d, other := newDatabase(t, r), r.copy()
			p := d.begin(jobs[0])
			d.steps(t, p, steps)
			if latch.Locked(d.m.Peek(d.l.Grow()).N) {
				break
			}
			other.post(jobs[1])
			d.put(other)
			d.run(t, p, true)
			d.expect(t, "P14.2: the tree has grown already", after)
			tried++
		}
	}
	if tried < 100 {
		t.Errorf("the test does too little: %d Posts", tried)
	}
}

// P14.4: Finds that make their steps beside a Post, some after each of its steps, find their keys.
func TestFindsBesidePost(t *testing.T) {
	for n, s := range samples(4) {
		for _, turns := range []int{1, 2, 4, 9} {
			g := newDice(n)
			d := newDatabase(t, s.r)
			list := d.lookAll(s.r)
			for _, x := range list {
				d.advance(t, x, g.roll(30)*g.roll(2))
			}
			p := d.begin(s.j)
			for steps := 0; !d.step(t, p); steps++ {
				if steps > patience {
					t.Fatal("P14.1, P14.2: a Post does not finish")
				}
				for _, x := range list {
					d.advance(t, x, turns-g.roll(turns+1))
				}
			}
			for _, x := range list {
				if d.advance(t, x, patience); !x.done {
					t.Fatalf("P14.4: %q is not found", x.slot.Key)
				}
			}
		}
	}
}
