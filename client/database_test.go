package client

import (
	"slices"
	"strings"
	"testing"

	"blinktree/api"
	"blinktree/layout"
	"blinktree/memory"
)

// dice is a sequence of numbers that seem random.
type dice struct{ x uint64 }

// newDice returns the sequence of a seed.
func newDice(seed int) *dice {
	g := &dice{x: uint64(seed)}
	for range 16 {
		g.roll(1)
	}
	return g
}

// roll returns a number less than n.
func (g *dice) roll(n int) int {
	g.x = g.x*6364136223846793005 + 1442695040888963407
	return int(g.x >> 33 % uint64(n))
}

// oneOf returns an element of a list.
func oneOf[T any](g *dice, list []T) T { return list[g.roll(len(list))] }

// universe returns 121 keys in ascending order, the empty one included. Many of them are prefixes of others.
func universe() []string {
	list := []string{""}
	for i := 0; len(list[i]) < 4; i++ {
		for _, s := range []string{"\x00", "a", "\xff"} {
			list = append(list, list[i]+s)
		}
	}
	slices.Sort(list)
	return list
}

// The greatest key and a key that is too long.
var (
	longest = strings.Repeat("\xff", api.MaxKey)
	tooLong = strings.Repeat("a", api.MaxKey+1)
)

// put returns a batch that gives values to keys, or deletes them if the value is empty.
func put(words ...string) []api.Write {
	var b []api.Write
	for i := 0; i < len(words); i += 2 {
		b = append(b, api.Write{Key: words[i], Value: words[i+1], Delete: words[i+1] == ""})
	}
	return b
}

// patience is a number of steps that is enough for every program of these tests if it does not have to wait.
const patience = 200000

// database is a memory with its layout, and the batches that have been applied to it before a test begins.
type database struct {
	l    layout.Layout
	m    *memory.Memory
	past [][]api.Write
}

// small is the configuration of a small database for two threads.
func small() api.Config {
	return api.Config{Threads: 2, Snapshots: 2, Nodes: 8, Chains: 12, Records: 24, Fanout: api.MinFanout, Clock: 16}
}

// large is the configuration of a database that is large enough for all tests.
func large(threads, snapshots, fanout int) api.Config {
	return api.Config{Threads: threads, Snapshots: snapshots, Nodes: 400, Chains: 800, Records: 4000, Fanout: fanout, Clock: 800}
}

// empty returns an empty database.
func empty(t *testing.T, c api.Config) *database {
	t.Helper()
	l, m, err := layout.Start(c)
	if err != api.OK {
		t.Fatal(err)
	}
	return &database{l: l, m: m}
}

// copy returns a database that does not change with this one.
func (d *database) copy() *database { return &database{d.l, d.m.Copy(), slices.Clone(d.past)} }

// published returns the last published timestamp.
func (d *database) published() uint64 { return d.m.Peek(d.l.Published()).N }

// set changes a cell that contains a number, and nothing else of it.
func (d *database) set(i int, n uint64) {
	c := d.m.Peek(i)
	c.N = n
	d.m.Poke(i, c)
}

// cells returns all cells.
func (d *database) cells() []api.Cell {
	list := make([]api.Cell, d.m.Cells())
	for i := range list {
		list[i] = d.m.Peek(i)
	}
	return list
}

// client returns a client of a program in a thread.
func (d *database) client(t *testing.T, thread int, program ...api.Op) *Client {
	t.Helper()
	c, err := New(d.l, thread, program)
	if err != api.OK || c == nil {
		t.Fatalf("P22.2: New returns %v and the error %d", c, err)
	}
	return c
}

// answers makes the steps of a client until it has finished, and returns the answers of its operations.
func (d *database) answers(t *testing.T, c *Client) []api.Answer {
	t.Helper()
	var list []api.Answer
	for range patience {
		if c.Finished() {
			return list
		}
		if c.Step(d.m).Done {
			list = append(list, c.Answer())
		}
	}
	t.Fatal("P22.3: a client does not finish")
	return nil
}

// perform performs operations in a thread, one after the other, and returns the client and the answers.
func (d *database) perform(t *testing.T, thread int, program ...api.Op) (*Client, []api.Answer) {
	t.Helper()
	c := d.client(t, thread, program...)
	return c, d.answers(t, c)
}

// apply applies batches, which must succeed.
func (d *database) apply(t *testing.T, batches ...[]api.Write) {
	t.Helper()
	for _, b := range batches {
		if _, x := d.perform(t, 0, apply(b)); x[0].Err != api.OK {
			t.Fatalf("the test is wrong: %v", x[0])
		}
		d.past = append(d.past, b)
	}
}

// Operations of each code. The first argument of those with a cursor is its number.

func get(key string) api.Op                { return api.Op{Code: api.OpGet, Key: key} }
func getAt(key string, time uint64) api.Op { return api.Op{Code: api.OpGetAt, Key: key, Time: time} }
func apply(b []api.Write) api.Op           { return api.Op{Code: api.OpApply, Batch: b} }
func write(words ...string) api.Op         { return apply(put(words...)) }
func snap(handle int) api.Op               { return api.Op{Code: api.OpSnapshot, Handle: handle} }
func release(handle int) api.Op            { return api.Op{Code: api.OpRelease, Handle: handle} }
func open(cursor, handle int) api.Op       { return api.Op{Code: api.OpOpen, Cursor: cursor, Handle: handle} }
func seek(cursor int, key string) api.Op   { return api.Op{Code: api.OpMove, Cursor: cursor, Key: key} }
func move(cursor, move int) api.Op         { return api.Op{Code: api.OpMove, Cursor: cursor, Move: move} }
func closing(cursor int) api.Op            { return api.Op{Code: api.OpClose, Cursor: cursor} }
func sweep() api.Op                        { return api.Op{Code: api.OpVacuum} }

// fails returns the answer of an operation that fails.
func fails(err api.Errno) api.Answer { return api.Answer{Err: err} }

// at returns the answer that has a time alone.
func at(time uint64) api.Answer { return api.Answer{Time: time} }

// end returns the answer of a move to an end.
func end(time uint64) api.Answer { return api.Answer{Err: api.ErrEnd, Time: time} }

// none returns the answer of a read that finds no value.
func none(time uint64, key string) api.Answer {
	return api.Answer{Err: api.ErrNotFound, Time: time, Key: key}
}

// entry returns the answer that has an entry.
func entry(time uint64, key, value string) api.Answer {
	return api.Answer{Time: time, Key: key, Value: value}
}
