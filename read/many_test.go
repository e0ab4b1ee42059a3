package read

import (
	"iter"
	"testing"

	"blinktree/api"
	"blinktree/batch"
	"blinktree/commit"
)

// job is something that writes, one access after the other: batches, or a pass of a vacuum.
type job struct {
	step  func() (struct{}, bool) // makes an access, and returns false if none was left
	batch []api.Write             // of the Apply in progress
	apply *commit.Apply
}

// newJob returns a job that does some work with the machines that it runs.
func (d *database) newJob(work func(j *job, run func(x machine))) *job {
	j := &job{}
	steps := func(yield func(struct{}) bool) {
		work(j, func(x machine) {
			for finished := false; !finished; yield(struct{}{}) {
				finished = x.Step(d.m)
			}
		})
	}
	j.step, _ = iter.Pull(iter.Seq[struct{}](steps))
	return j
}

// applying returns a job that applies batches.
func (d *database) applying(batches ...[]api.Write) *job {
	return d.newJob(func(j *job, run func(x machine)) {
		for _, b := range batches {
			j.batch, j.apply = b, commit.NewApply(d.l, b)
			run(j.apply)
		}
	})
}

// vacuuming returns a job that makes some passes of a vacuum, each at a floor of at most the last published timestamp.
func (d *database) vacuuming(passes int, lag func() uint64) *job {
	return d.newJob(func(j *job, run func(x machine)) {
		for range passes {
			d.sweep(d.published()-min(d.published(), lag()), run)
		}
	})
}

// pick makes a step of a job, and returns false if nothing was left. If a batch is published with it, there are new entries.
func (d *database) pick(t *testing.T, j *job) bool {
	published := d.published()
	_, more := j.step()
	if d.published() == published {
		return more
	}
	if d.published() != published+1 || j.apply == nil || j.apply.Answer().Time != d.published() {
		t.Fatal("the test is wrong: a timestamp is published that is not that of the batch")
	}
	d.entries = append(d.entries, batch.Apply(d.entries[published], j.batch))
	return more
}

// follower is a read with the answer that it must give.
type follower struct {
	reader
	key  string
	want api.Answer
	at   bool // whether it is a GetAt
	time uint64
}

// follow begins a Get or a GetAt of a key.
func (d *database) follow(g *dice, key string) *follower {
	if g.roll(2) == 0 {
		return d.getting(key)
	}
	later := d.published() + 2
	return d.gettingAt(key, later-min(later, uint64(g.roll(7))))
}

// getting begins a Get of a key.
func (d *database) getting(key string) *follower {
	return &follower{reader: NewGet(d.l, key), key: key}
}

// gettingAt begins a GetAt of a key.
func (d *database) gettingAt(key string, time uint64) *follower {
	return &follower{reader: NewGetAt(d.l, key, time), key: key, at: true, time: time}
}

// step makes a step of a read, and reports whether it has finished. In the step in which it takes effect, its answer is what the model
// answers then.
func (f *follower) step(t *testing.T, d *database) bool {
	marks := f.Marks()
	finished := d.step(t, f.reader)
	if f.Marks() > marks {
		f.want = d.at(f.key, d.published())
		if f.at {
			f.want = d.wanted(f.key, f.time)
		}
	}
	if finished && f.Answer() != f.want {
		t.Fatalf("P17.3: a read of %q answers %v, want %v", f.key, f.Answer(), f.want)
	}
	return finished
}

// tally counts what reads do.
type tally struct {
	answers map[api.Errno]int
	again   int // how many reads begin again
}

// note counts a read that has finished.
func (n *tally) note(f *follower) {
	n.answers[f.Answer().Err]++
	if f.Marks() > 1 {
		n.again++
	}
}

// expect reports an error if too few reads have ended in each way.
func (n *tally) expect(t *testing.T, least int) {
	t.Helper()
	for _, err := range []api.Errno{api.OK, api.ErrNotFound, api.ErrFuture, api.ErrVacuumed} {
		if n.answers[err] < least {
			t.Errorf("the test does too little: %d answers with the error %d", n.answers[err], err)
		}
	}
	if n.again < least {
		t.Errorf("the test does too little: %d reads begin again", n.again)
	}
}

// P17.1, P17.2, P17.3: many reads beside many batches and passes of a vacuum, in orders that seem random. Each read answers what the model
// answers at its point.
func TestManyReads(t *testing.T) {
	n := &tally{answers: map[api.Errno]int{}}
	for seed := range 60 {
		g := newDice(seed)
		d := newDatabase(t, seed)
		some := shuffled(g, universe())[:[]int{2, 9, 60}[seed%3]]
		var jobs []*job
		for range 1 + g.roll(4) {
			var list [][]api.Write
			for range 8 {
				list = append(list, g.batch(some, g.roll(min(len(some), 6)+1)))
			}
			jobs = append(jobs, d.applying(list...))
		}
		jobs = append(jobs, d.vacuuming(6, func() uint64 { return uint64(g.roll(3)) }))
		d.mix(t, g, jobs, some, n)
	}
	n.expect(t, 50)
}

// mix picks jobs and reads of some keys until no job is left and all reads have finished. Some reads are much slower than others.
func (d *database) mix(t *testing.T, g *dice, jobs []*job, some []string, n *tally) {
	t.Helper()
	const readers = 5
	reading := map[int]*follower{}
	for len(jobs) > 0 || len(reading) > 0 {
		for i := range readers {
			f := reading[i]
			switch {
			case f == nil && len(jobs) > 0:
				reading[i] = d.follow(g, some[g.roll(len(some))])
			case f != nil && g.roll(1+4*i) == 0 && f.step(t, d):
				n.note(f)
				delete(reading, i)
			}
		}
		if len(jobs) == 0 {
			continue
		}
		if k := g.roll(len(jobs)); !d.pick(t, jobs[k]) {
			jobs = append(jobs[:k], jobs[k+1:]...)
		}
	}
}

// enough is a number of steps with which each of the following jobs and reads finishes.
const enough = 300

// scene is a small database, a read of "b", and something that writes.
type scene struct {
	start *database
	read  func(d *database) *follower
	work  func(d *database) *job
}

// play makes some steps of the job and of the read in turn, and after that all steps of the job and of the read. It returns how many steps
// both have made.
func (x scene) play(t *testing.T, n *tally, turns ...int) (worked, read int) {
	d := x.start.copy()
	f, j := x.read(d), x.work(d)
	working, reading := true, true
	for i, turn := range append(turns, enough, enough, enough) {
		for range turn {
			switch {
			case i%2 == 0 && working:
				if working = d.pick(t, j); working {
					worked++
				}
			case i%2 == 1 && reading:
				reading = !f.step(t, d)
				read++
			}
		}
	}
	if working || reading {
		t.Fatal("P17.1, P17.2: a read does not finish")
	}
	n.note(f)
	return worked, read
}

// P17.1, P17.2, P17.3: a read of a key among the accesses of a batch and of a pass of a vacuum that change and remove it, in many orders in
// which it is interrupted at most twice.
func TestInterrupted(t *testing.T) {
	n := &tally{answers: map[api.Errno]int{}}
	for _, list := range []string{"ab", "abcd"} {
		start := empty(t, small())
		for _, x := range list {
			start.apply(t, put(string(x), "old"))
		}
		now := start.published()
		for _, b := range [][]api.Write{put("b", "new"), {{Key: "b", Delete: true}, {Key: "ba", Value: "new"}}} {
			work := func(d *database) *job {
				return d.newJob(func(j *job, run func(x machine)) {
					j.batch, j.apply = b, commit.NewApply(d.l, b)
					run(j.apply)
					d.sweep(now+1, run)
				})
			}
			scene{start, func(d *database) *follower { return d.getting("b") }, work}.playMany(t, n)
			for _, time := range []uint64{now - 1, now, now + 1} {
				scene{start, func(d *database) *follower { return d.gettingAt("b", time) }, work}.playMany(t, n)
			}
		}
	}
	n.expect(t, 50)
}

// playMany plays a scene in many orders with at most two interruptions of the read: after each number of its steps and of those of the job.
func (x scene) playMany(t *testing.T, n *tally) {
	t.Helper()
	worked, read := x.play(t, n)
	_, alone := x.play(t, n, 0, enough)
	read = max(read, alone)
	for before := 0; before <= worked; before++ {
		for first := 1; first < read; first++ {
			for pause := 1 + (before+first)%7; before+pause <= worked; pause += 7 {
				x.play(t, n, before, first, pause)
			}
		}
	}
}
