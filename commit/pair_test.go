package commit

import (
	"slices"
	"testing"

	"blinktree/api"
	"blinktree/batch"
)

// pair is two batches that are applied at the same time to a database.
type pair struct {
	s             *state
	first, second []api.Write
}

// play makes some steps of the first Apply and of the second one, then one pick for each bit of order but the highest, and then picks in
// turn until both have finished. It returns the database and the answers.
func (u pair) play(t *testing.T, first, second, order int) (*database, []api.Answer) {
	t.Helper()
	d := newDatabase(t, u.s)
	applies := []*Apply{NewApply(d.l, u.first), NewApply(d.l, u.second)}
	ended := []bool{false, false}
	pick := func(k int) {
		if !ended[k] {
			ended[k] = d.step(t, applies[k])
		}
	}
	for range first {
		pick(0)
	}
	for range second {
		pick(1)
	}
	for ; order > 1; order >>= 1 {
		pick(order & 1)
	}
	for picks := 0; !ended[0] || !ended[1]; picks++ {
		if picks > patience {
			t.Fatal("P16.1, P16.2: the batches wait for each other")
		}
		pick(picks % 2)
	}
	return d, []api.Answer{applies[0].Answer(), applies[1].Answer()}
}

// expect reports an error if the database is not as after those batches that have succeeded, in the order of their timestamps.
func (u pair) expect(t *testing.T, d *database, answers []api.Answer) (succeeded int) {
	t.Helper()
	entries := u.s.history(t)
	for range answers {
		next := api.Answer{Time: uint64(len(entries))}
		if k := slices.Index(answers, next); k >= 0 {
			entries = append(entries, batch.Apply(entries[len(entries)-1], [][]api.Write{u.first, u.second}[k]))
			succeeded++
		}
	}
	for _, a := range answers {
		if a.Err != api.OK && a != (api.Answer{Err: api.ErrFull}) && a != (api.Answer{Err: api.ErrClock}) {
			t.Fatalf("P16.2, P16.3: the answers are %v", answers)
		}
	}
	failed := slices.ContainsFunc(answers, func(a api.Answer) bool { return a.Err != api.OK })
	if failed != (succeeded < len(answers)) || answers[0] == answers[1] && succeeded > 0 {
		t.Fatalf("P16.2: the answers are %v", answers)
	}
	if d.published() != uint64(len(entries))-1 {
		t.Fatalf("P16.2: %d is published, and %d batches have succeeded", d.published(), len(entries)-1)
	}
	for time, want := range entries {
		d.expectContents(t, "P16.5", uint64(time), want...)
	}
	return succeeded
}

// tries plays a pair in many orders: after each few steps of both, one order of the next seven picks. It returns how many batches have
// succeeded at least and at most, and in how many orders the second one was before the first one.
func (u pair) tries(t *testing.T, every int) (least, most, overtaken int) {
	t.Helper()
	x, y := sample{u.s, u.first}, sample{u.s, u.second}
	lengthOne, _ := x.length(t)
	lengthTwo, _ := y.length(t)
	least = 2
	n := 0
	for first := 0; first <= lengthOne; first += every {
		for second := 0; second <= lengthTwo; second += every {
			d, answers := u.play(t, first, second, 1<<7|n*37%128)
			n++
			succeeded := u.expect(t, d, answers)
			d.survey(t)
			least, most = min(least, succeeded), max(most, succeeded)
			if answers[0].Time > answers[1].Time {
				overtaken++
			}
		}
	}
	return least, most, overtaken
}

// letters returns a database in which some letters have values, each by a batch of its own.
func letters(list string) *state {
	s := emptyState(api.MinFanout)
	for _, x := range list {
		s.apply([]api.Write{put(string(x), "old")})
	}
	return s
}

// writes returns a batch that gives letters a value.
func writes(list, value string) []api.Write {
	var b []api.Write
	for _, x := range list {
		b = append(b, put(string(x), value))
	}
	return b
}

// P16.1, P16.2, P16.5: two batches of the same keys, of keys in the same leaves and in other ones, with splits of the leaves that the other
// one needs. They do not block each other, whoever comes first, and both succeed.
func TestTwoBatches(t *testing.T) {
	for _, u := range []pair{
		{letters(""), writes("ab", "1"), writes("ab", "2")},
		{letters("ab"), writes("ab", "1"), writes("ab", "2")},
		{letters("abcd"), writes("be", "1"), writes("bf", "2")},
		{letters("aceg"), writes("bdfh", "1"), writes("bdfh", "2")},
		{letters("acegikmo"), writes("ao", "1"), writes("ao", "2")},
		{letters("acegikmo"), writes("afn", "1"), writes("hjlnp", "2")},
		{letters("acegikmo"), writes("bdf", "1"), append(writes("a", "2"), api.Write{Key: "o", Delete: true}, put("p", "2"))},
		{letters("acegikmo"), writes("a", "1"), writes("o", "2")},
		{letters("acegikmo"), nil, writes("o", "2")},
	} {
		u.s.limitLeft(9, 9, 9, 2)
		if least, _, overtaken := u.tries(t, 3); least != 2 || overtaken == 0 {
			t.Fatalf("P16.5: %d batches succeed, and the second one is the first one %d times", least, overtaken)
		}
	}
}

// P16.3, P16.5: the same with too few chains, nodes, records or timestamps. What has failed is not visible.
func TestTwoBatchesWithTooLittle(t *testing.T) {
	for _, left := range [][]int{{9, 9, 3, 2}, {9, 3, 9, 2}, {9, 9, 9, 1}, {1, 9, 9, 2}, {9, 9, 2, 2}, {9, 1, 9, 2}, {9, 9, 9, 0}} {
		for _, u := range []pair{
			{letters("acegikmo"), writes("bn", "1"), writes("bn", "2")},
			{letters("acegikmo"), writes("abn", "1"), writes("fno", "2")},
			{letters("abcdefgh"), writes("az", "1"), writes("ay", "2")},
		} {
			u.s.limitLeft(left[0], left[1], left[2], left[3])
			if _, most, _ := u.tries(t, 5); most > 1 && left[3] < 2 {
				t.Fatalf("P16.3: %d batches succeed, but %d timestamps are left", most, left[3])
			}
		}
	}
}

// P16.5: of two batches of the same two keys, a reader sees the values of the same one after each step, in all orders of the first picks,
// three at a time.
func TestAllOrders(t *testing.T) {
	s := letters("ab")
	s.limitLeft(1, 1, 4, 2)
	const bits = 13
	for order := range 1 << bits {
		d := newDatabase(t, s)
		applies := []*Apply{NewApply(d.l, writes("ab", "1")), NewApply(d.l, writes("ab", "2"))}
		ended := []bool{false, false}
		entries := d.contents(s.time)
		for picks := 0; !ended[0] || !ended[1]; picks++ {
			if picks > patience {
				t.Fatal("P16.2: the batches wait for each other")
			}
			k := picks % 2
			if picks < 3*bits {
				k = order >> (picks / 3) & 1
			}
			if ended[k] {
				continue
			}
			published := d.published()
			ended[k] = d.step(t, applies[k])
			if d.published() > published {
				value := []string{"1", "2"}[k]
				entries = []api.Entry{{Key: "a", Value: value}, {Key: "b", Value: value}}
			}
			d.expectContents(t, "P16.5", d.published(), entries...)
		}
		d.survey(t)
	}
}
