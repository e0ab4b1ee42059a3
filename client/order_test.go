package client

import (
	"slices"
	"strings"
	"testing"

	"blinktree/api"
)

// batch returns a batch of some writes of some keys, which need not be in their order, nor of different keys.
func (g *dice) batch(keys []string) []api.Write {
	var b []api.Write
	for range g.roll(7) {
		w := api.Write{Key: oneOf(g, keys)}
		switch g.roll(6) {
		case 0, 1:
			w.Delete = true
		case 2:
			w.Value = strings.Repeat("v", g.roll(api.MaxValue+1))
		default:
			w.Value = string(rune('a'+g.roll(26))) + w.Key
		}
		b = append(b, w)
	}
	switch g.roll(40) {
	case 0:
		b = append(b, api.Write{Key: "k", Value: "v", Delete: true})
	case 1:
		b = append(b, api.Write{Key: tooLong})
	case 2:
		b = append(b, slices.Repeat([]api.Write{{Key: "k"}}, api.MaxBatch+1)...)
	}
	return b
}

// key returns one of some keys, or one that is too long.
func (g *dice) key(keys []string) string {
	if g.roll(20) == 0 {
		return tooLong
	}
	return oneOf(g, keys)
}

// program returns a program of n operations of all kinds. Most of them concern a few snapshots and cursors, so that many are open.
func (g *dice) program(snapshots int, keys []string, times, n int) []api.Op {
	var list []api.Op
	for range n {
		handle, i := g.roll(snapshots), []int{0, 1, 7}[g.roll(3)]
		var op api.Op
		switch g.roll(20) {
		case 0, 1, 2, 3:
			op = apply(g.batch(keys))
		case 4, 5:
			op = get(g.key(keys))
		case 6, 7:
			op = getAt(g.key(keys), uint64(g.roll(times)))
		case 8, 9:
			op = snap(handle)
		case 10:
			op = release(handle)
		case 11, 12:
			op = open(i, handle)
		case 13:
			op = closing(i)
		case 14:
			op = sweep()
		case 15, 16:
			op = seek(i, g.key(keys))
		default:
			op = move(i, oneOf(g, []int{api.MoveFirst, api.MoveLast, api.MoveNext, api.MoveNext, api.MoveNext, api.MovePrev, api.MovePrev}))
		}
		list = append(list, op)
	}
	return list
}

// hurry returns a program of n batches, passes and reads of the present, which have to begin again more often than others.
func (g *dice) hurry(keys []string, n int) []api.Op {
	var list []api.Op
	for range n {
		list = append(list, oneOf(g, []api.Op{get(oneOf(g, keys)), write(oneOf(g, keys), "h"), sweep()}))
	}
	return list
}

// kind is an operation's code with the error of its answer.
type kind struct {
	code int
	err  api.Errno
}

// tally counts what clients do.
type tally struct {
	kinds map[kind]int
	early int // how many batches and passes have taken effect and have not returned when everybody stops
	open  int // how many other operations have not returned then
	again int // how many operations take effect again
}

// newTally returns a tally without counts.
func newTally() *tally { return &tally{kinds: map[kind]int{}} }

// note counts the operations of an arena.
func (n *tally) note(a *arena) {
	for _, r := range a.records {
		early := r.Op.Code == api.OpApply || r.Op.Code == api.OpVacuum
		switch {
		case r.Response >= 0:
			n.kinds[kind{r.Op.Code, r.Answer.Err}]++
		case early && r.Point >= 0:
			n.early++
		default:
			n.open++
		}
	}
}

// expectAll reports an error if there are too few operations of one of the kinds.
func (n *tally) expectAll(t *testing.T, least int, kinds map[int][]api.Errno) {
	t.Helper()
	for code, errs := range kinds {
		for _, err := range errs {
			if n.kinds[kind{code, err}] < least {
				t.Errorf("the test does too little: %d operations with the code %d and the error %d", n.kinds[kind{code, err}], code, err)
			}
		}
	}
}

// ends are the errors of each operation, if nothing is missing.
var ends = map[int][]api.Errno{
	api.OpGet:      {api.OK, api.ErrNotFound, api.ErrTooLarge},
	api.OpGetAt:    {api.OK, api.ErrNotFound, api.ErrFuture, api.ErrVacuumed, api.ErrTooLarge},
	api.OpApply:    {api.OK, api.ErrInvalid, api.ErrTooLarge},
	api.OpSnapshot: {api.OK, api.ErrOpen},
	api.OpRelease:  {api.OK, api.ErrClosed},
	api.OpOpen:     {api.OK, api.ErrClosed, api.ErrOpen},
	api.OpMove:     {api.OK, api.ErrEnd, api.ErrClosed, api.ErrTooLarge},
	api.OpClose:    {api.OK, api.ErrClosed},
	api.OpVacuum:   {api.OK},
}

// mix makes picks that seem random, until all clients have finished, or until a number of picks has been made. Some clients are much slower
// than others, and some are not picked at all for a while.
func (a *arena) mix(t *testing.T, g *dice, n *tally, picks int) {
	t.Helper()
	slow := make([]int, len(a.watchers))
	for k := 0; len(a.working()) > 0 && a.picks < picks; k++ {
		if k > 10*patience {
			t.Fatal("P22.3: the clients wait for each other")
		}
		if k%50 == 0 {
			for i := range slow {
				slow[i] = 1 + g.roll(15)*g.roll(2)
			}
		}
		thread := oneOf(g, a.working())
		if g.roll(slow[thread]) > 0 {
			continue
		}
		w := a.watchers[thread]
		before := w.busy && w.now().Point >= 0
		if e := a.pick(t, thread); e.Effect && before {
			n.again++
		}
	}
}

// newCrowd returns an arena with programs of some operations that seem random.
func newCrowd(t *testing.T, g *dice, c api.Config, operations int) *arena {
	t.Helper()
	all := universe()
	some := make([]string, []int{2, 9, 60}[g.roll(3)])
	for i := range some {
		some[i] = oneOf(g, all)
	}
	var programs [][]api.Op
	hurry := g.roll(5) == 0
	for range c.Threads {
		if hurry {
			programs = append(programs, g.hurry(some[:2], operations))
			continue
		}
		programs = append(programs, g.program(c.Snapshots, some, operations*c.Threads/5+1, operations))
	}
	return newArena(t, empty(t, c), programs...)
}

// P22.3, P22.4, P22.5: one client with a long program, against the model.
func TestOneClient(t *testing.T) {
	n := newTally()
	for seed := range 200 {
		g := newDice(seed)
		a := newCrowd(t, g, large(1, 1+seed%api.MaxSnapshots, 4+seed%5), 150)
		a.finish(t)
		a.judge(t, "P22.4")
		n.note(a)
	}
	n.expectAll(t, 20, ends)
}

// P22.3, P22.4, P22.5, P50.1: many clients in orders that seem random. The operations, in the order of their points, answer what the model
// answers.
func TestManyClients(t *testing.T) {
	n := newTally()
	for seed := range 1000 {
		g := newDice(seed)
		a := newCrowd(t, g, large(2+g.roll(5), 1+g.roll(3), 4+seed%4), 30)
		a.mix(t, g, n, 1<<40)
		a.judge(t, "P22.3, P22.4")
		n.note(a)
	}
	n.expectAll(t, 20, ends)
	if n.again < 20 || n.early+n.open > 0 {
		t.Errorf("the test does too little: %d operations take effect again, and %d have not returned", n.again, n.early+n.open)
	}
}

// P22.3, P22.4, P22.5: many clients that stop at any moment. What has taken effect then is what the model answers, and has an effect on the
// others, also if it has not returned.
func TestStopped(t *testing.T) {
	n := newTally()
	for seed := range 1000 {
		g := newDice(seed)
		a := newCrowd(t, g, large(2+g.roll(5), 1+g.roll(3), 4+seed%4), 20)
		a.mix(t, g, n, 20+g.roll(1500))
		a.judge(t, "P22.3, P22.5")
		n.note(a)
	}
	if n.early < 100 || n.open < 300 {
		t.Errorf("the test does too little: %d batches and passes, and %d other operations, have not returned", n.early, n.open)
	}
}

// P22.4, P50.6: many clients with too little of everything. A batch that fails changes nothing.
func TestTooLittle(t *testing.T) {
	n := newTally()
	for seed := range 300 {
		g := newDice(seed)
		c := large(1+g.roll(4), 2, 4)
		switch seed % 4 {
		case 0:
			c.Nodes = 1 + g.roll(6)
		case 1:
			c.Chains = 1 + g.roll(20)
		case 2:
			c.Records = 1 + g.roll(40)
		default:
			c.Clock = uint64(1 + g.roll(12))
		}
		a := newCrowd(t, g, c, 25)
		a.mix(t, g, n, 1<<40)
		a.judge(t, "P22.4")
		n.note(a)
	}
	n.expectAll(t, 100, map[int][]api.Errno{api.OpApply: {api.OK, api.ErrFull, api.ErrClock}})
}

// play picks two clients in turn, each for some steps, and after that until both have finished. It returns how many steps both have made.
func (a *arena) play(t *testing.T, turns ...int) [2]int {
	t.Helper()
	var made [2]int
	for i, turn := range append(turns, patience, patience, patience) {
		for n := 0; n < min(turn, 2000) && a.watchers[i%2].left(); n++ {
			a.pick(t, i%2)
			made[i%2]++
		}
	}
	if len(a.working()) > 0 {
		t.Fatal("P22.3: two clients wait for each other")
	}
	return made
}

// P22.3, P22.4: two clients with short programs, in many orders in which each is interrupted at most twice.
func TestTwoClients(t *testing.T) {
	start := empty(t, small())
	start.apply(t, put("a", "1", "b", "1", "c", "1", "d", "1"), put("b", "2"))
	n := newTally()
	for _, x := range [][2][]api.Op{
		{{get("a")}, {write("a", "8"), sweep()}},
		{{getAt("b", 1), getAt("b", 3)}, {write("b", "9"), sweep()}},
		{{snap(0), open(0, 0), move(0, api.MoveLast), move(0, api.MovePrev)}, {write("c", "", "e", "7"), sweep()}},
		{{snap(0), release(0), snap(0)}, {write("a", ""), sweep()}},
		{{write("a", "", "e", "5")}, {write("d", "6", "a", "7")}},
	} {
		begin := func() *arena { return newArena(t, start.copy(), x[0], x[1]) }
		longest := begin().play(t)
		const stride = 9
		for before := 0; before <= longest[0]; before++ {
			for between := 1; between < longest[1]; between++ {
				for pause := 1 + (before+between)%stride; before+pause <= longest[0]+stride; pause += stride {
					a := begin()
					a.play(t, before, between, pause)
					a.judge(t, "P22.3, P22.4")
					n.note(a)
				}
			}
		}
	}
	n.expectAll(t, 100, map[int][]api.Errno{
		api.OpGet: {api.OK}, api.OpGetAt: {api.OK, api.ErrFuture, api.ErrVacuumed}, api.OpMove: {api.OK}, api.OpSnapshot: {api.OK},
	})
}

// P22.3, P22.4: a thread that opens and releases a snapshot beside a pass, in all orders of their steps.
func TestAllOrders(t *testing.T) {
	c := small()
	c.Snapshots = 1
	start := empty(t, c)
	start.apply(t, put("a", "1"), put("a", "2"))
	watermarks, orders := map[uint64]int{}, 0
	var choose func(turns []int)
	choose = func(turns []int) {
		a := newArena(t, start.copy(), []api.Op{snap(0), release(0)}, []api.Op{sweep()})
		for _, thread := range turns {
			a.pick(t, thread)
		}
		if len(a.working()) < 2 {
			a.finish(t)
			a.judge(t, "P22.3, P22.4")
			watermarks[a.watchers[1].now().Answer.Time]++
			orders++
			return
		}
		for thread := range a.watchers {
			choose(append(slices.Clone(turns), thread))
		}
	}
	choose(nil)
	if orders < 1000 || watermarks[0] == 0 || watermarks[2] == 0 {
		t.Errorf("the test does too little: %d orders, with the watermarks %v", orders, watermarks)
	}
}

// Rule 1: no step panics, or makes more than one access, whatever is in the memory. The programs need not finish.
func TestDamage(t *testing.T) {
	numbers := []uint64{0, 1, 2, 3, 4, 7, 17, 1 << 20, 1 << 62, ^uint64(0)}
	finished := 0
	for seed := range 3000 {
		g := newDice(seed)
		d := empty(t, small())
		d.apply(t, put("a", "1", "b", "1", "c", "1", "d", "1", "e", "1"), put("a", "2", "b", ""), put("c", "", "f", "1"))
		for range 1 + g.roll(6) {
			d.m.Poke(g.roll(d.m.Cells()), api.Cell{N: oneOf(g, numbers), K: oneOf(g, universe()), M: oneOf(g, numbers)})
		}
		a := newArena(t, d, g.program(2, universe(), 6, 6), g.program(2, universe(), 6, 6))
		a.mix(t, g, newTally(), 1000)
		if len(a.working()) == 0 {
			finished++
		}
	}
	if finished < 500 || finished == 3000 {
		t.Errorf("the test does too little: %d of the databases let all programs finish", finished)
	}
}
