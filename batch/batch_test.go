package batch

import (
	"slices"
	"strings"
	"testing"

	"blinktree/api"
)

// spareWrite and spareEntry lie behind the ends of the slices that a test passes.
var (
	spareWrite = api.Write{Key: "behind the end", Value: "w", Delete: true}
	spareEntry = api.Entry{Key: "behind the end", Value: "e"}
)

// set returns a write with a value, gone one with Delete, and both one that is a contradiction.
func set(key, value string) api.Write  { return api.Write{Key: key, Value: value} }
func gone(key string) api.Write        { return api.Write{Key: key, Delete: true} }
func both(key, value string) api.Write { return api.Write{Key: key, Value: value, Delete: true} }

// roomy returns the elements, and spare ones behind them that nobody may write.
func roomy[T any](spare T, elements []T) []T {
	all := append(make([]T, 0, len(elements)+2), elements...)
	return append(all, spare, spare)[:len(elements)]
}

// writes and entries return slices with room behind them.
func writes(all ...api.Write) []api.Write { return roomy(spareWrite, all) }

func entries(pairs ...string) []api.Entry {
	var all []api.Entry
	for i := 0; i < len(pairs); i += 2 {
		all = append(all, api.Entry{Key: pairs[i], Value: pairs[i+1]})
	}
	return roomy(spareEntry, all)
}

// whole returns a copy of a slice and of the room behind it.
func whole[T any](l []T) []T { return slices.Clone(l[:cap(l)]) }

// expectUntouched reports an error if a slice or the room behind it is not what it was (rule 3).
func expectUntouched[T comparable](t *testing.T, function string, l, was []T) {
	t.Helper()
	if !slices.Equal(whole(l), was) {
		t.Fatalf("rule 3: %s modified its argument %v: %v", function, was, whole(l))
	}
}

// overwrite returns a copy of a result, and overwrites the result with all its room.
func overwrite[T any](result []T, with T) []T {
	kept := slices.Clone(result)
	for i := range result[:cap(result)] {
		result[:cap(result)][i] = with
	}
	return kept
}

// check, normalize, normal and apply call the functions, and report an error if an argument changes, even if the caller overwrites
// the result afterwards. They return copies of the results.
func check(t *testing.T, b []api.Write) api.Errno {
	t.Helper()
	was := whole(b)
	err := Check(b)
	expectUntouched(t, "Check", b, was)
	return err
}

func normalize(t *testing.T, b []api.Write) ([]api.Write, api.Errno) {
	t.Helper()
	was := whole(b)
	result, err := Normalize(b)
	kept := overwrite(result, both("overwritten", "w"))
	expectUntouched(t, "Normalize, or who overwrites its result,", b, was)
	return kept, err
}

func normal(t *testing.T, b []api.Write) bool {
	t.Helper()
	was := whole(b)
	is := Normal(b)
	expectUntouched(t, "Normal", b, was)
	return is
}

func apply(t *testing.T, l []api.Entry, b []api.Write) []api.Entry {
	t.Helper()
	list, batch := whole(l), whole(b)
	kept := overwrite(Apply(l, b), api.Entry{Key: "overwritten", Value: "e"})
	expectUntouched(t, "Apply, or who overwrites its result,", l, list)
	expectUntouched(t, "Apply, or who overwrites its result,", b, batch)
	return kept
}

// many returns n writes of different keys, in ascending order.
func many(n int) []api.Write {
	var all []api.Write
	for i := range n {
		all = append(all, set(string([]byte{'k', byte(i / 256), byte(i)}), "v"))
	}
	return all
}

// same returns n equal writes.
func same(n int, w api.Write) []api.Write { return slices.Repeat([]api.Write{w}, n) }

// at returns n writes of which the one with index i is w.
func at(n, i int, w api.Write) []api.Write {
	all := many(n)
	all[i] = w
	return all
}

var (
	key32, key33     = strings.Repeat("k", 32), strings.Repeat("k", 33)
	value64, value65 = strings.Repeat("v", 64), strings.Repeat("v", 65)
	zeros, ones      = strings.Repeat("\x00", 33), strings.Repeat("\xff", 65)
	runes            = strings.Repeat("\u00e9", 17) // 34 bytes
)

// P15.1
func TestCheck(t *testing.T) {
	for i, c := range []struct {
		b    []api.Write
		want api.Errno
	}{
		{nil, api.OK},
		{[]api.Write{}, api.OK},
		{writes(set("a", "1")), api.OK},
		{writes(set("", "")), api.OK},
		{writes(gone("")), api.OK},
		{writes(gone(key32)), api.OK},
		{writes(set(key32, value64)), api.OK},
		{writes(set("b", "1"), set("a", "2"), gone("b")), api.OK},
		{writes(set(zeros[:32], ones[:64])), api.OK},
		{writes(set(runes[:32], "")), api.OK},
		{same(16, set("a", "1")), api.OK},
		{same(16, gone("a")), api.OK},
		{many(16), api.OK},
		{at(16, 15, set(key32, value64)), api.OK},
		{same(17, set("a", "1")), api.ErrTooLarge},
		{same(17, gone("a")), api.ErrTooLarge},
		{same(17, both("a", "1")), api.ErrTooLarge},
		{same(17, api.Write{}), api.ErrTooLarge},
		{many(17), api.ErrTooLarge},
		{many(10000), api.ErrTooLarge},
		{writes(set(key33, "")), api.ErrTooLarge},
		{writes(gone(key33)), api.ErrTooLarge},
		{writes(set("a", value65)), api.ErrTooLarge},
		{writes(set("", value65)), api.ErrTooLarge},
		{writes(set(key33, value65)), api.ErrTooLarge},
		{writes(set(zeros, "")), api.ErrTooLarge},
		{writes(set("a", ones)), api.ErrTooLarge},
		{writes(set(runes, "")), api.ErrTooLarge},
		{writes(set(strings.Repeat("k", 1<<20), "")), api.ErrTooLarge},
		{writes(set("a", strings.Repeat("v", 1<<20))), api.ErrTooLarge},
		{at(16, 0, set(key33, "")), api.ErrTooLarge},
		{at(16, 15, set(key33, "")), api.ErrTooLarge},
		{at(16, 7, set("a", value65)), api.ErrTooLarge},
		{writes(set("a", value65), set("a", "1")), api.ErrTooLarge}, // also a write that a later one replaces
		{writes(both("a", "1")), api.ErrInvalid},
		{writes(both("", "\x00")), api.ErrInvalid},
		{writes(both(key32, value64)), api.ErrInvalid},
		{at(16, 0, both("a", "1")), api.ErrInvalid},
		{at(16, 15, both("a", "1")), api.ErrInvalid},
		{writes(both("a", "1"), gone("a")), api.ErrInvalid},
		{writes(both("a", "1"), both("a", "1")), api.ErrInvalid},
	} {
		if got := check(t, c.b); got != c.want {
			t.Errorf("P15.1: row %d: Check is %d, not %d", i, got, c.want)
		}
	}
}

// P15.1: ErrTooLarge comes before ErrInvalid, wherever the two writes are.
func TestCheckOrder(t *testing.T) {
	for i, large := range []api.Write{set(key33, ""), set("a", value65), gone(key33), both(key33, "1"), both("a", value65)} {
		for j, b := range [][]api.Write{
			writes(large, both("b", "1")),
			writes(both("b", "1"), large),
			writes(both("a", "1"), set("b", "2"), large),
			writes(large, set("b", "2"), both("b", "1")),
			at(16, 15, large),
			append(same(15, both("b", "1")), large),
			append(writes(large), same(15, both("b", "1"))...),
		} {
			if got := check(t, b); got != api.ErrTooLarge {
				t.Errorf("P15.1: rows %d and %d: Check is %d", i, j, got)
			}
		}
	}
}

// P15.1: all sizes of batches, keys and values.
func TestCheckSizes(t *testing.T) {
	for n := range 100 {
		want := map[bool]api.Errno{true: api.OK, false: api.ErrTooLarge}
		if got := check(t, many(n)); got != want[n <= 16] {
			t.Errorf("P15.1: Check of %d writes is %d", n, got)
		}
		if got := check(t, writes(set(strings.Repeat("k", n), ""))); got != want[n <= 32] {
			t.Errorf("P15.1: Check of a key of %d bytes is %d", n, got)
		}
		if got := check(t, writes(set("", strings.Repeat("v", n)))); got != want[n <= 64] {
			t.Errorf("P15.1: Check of a value of %d bytes is %d", n, got)
		}
	}
}

// P15.2
func TestNormalize(t *testing.T) {
	for i, c := range []struct{ b, want []api.Write }{
		{nil, nil},
		{[]api.Write{}, nil},
		{writes(set("b", "1"), set("a", "2"), gone("b")), writes(set("a", "2"), gone("b"))}, // example 1
		{writes(set("a", "1")), writes(set("a", "1"))},
		{writes(gone("a")), writes(gone("a"))},
		{writes(set("", "")), writes(set("", ""))},
		{writes(set("a", "1"), set("a", "2")), writes(set("a", "2"))},
		{writes(set("a", "2"), set("a", "1")), writes(set("a", "1"))},
		{writes(set("a", "1"), gone("a")), writes(gone("a"))},
		{writes(gone("a"), set("a", "1")), writes(set("a", "1"))},
		{writes(gone("a"), set("a", "")), writes(set("a", ""))},
		{writes(set("a", "1"), set("b", "2"), set("a", "3"), set("b", "4"), set("a", "5")), writes(set("a", "5"), set("b", "4"))},
		{writes(set("c", "1"), set("b", "2"), set("a", "3")), writes(set("a", "3"), set("b", "2"), set("c", "1"))},
		{writes(set("a", "1"), set("", "2"), set("", "3")), writes(set("", "3"), set("a", "1"))},
		{writes(set("\xff", "1"), set("\x80", "2"), set("a\x00", "3"), set("a", "4"), set("\x7f", "5")),
			writes(set("a", "4"), set("a\x00", "3"), set("\x7f", "5"), set("\x80", "2"), set("\xff", "1"))},
		{writes(set("b", "1"), set("ab", "2"), set("abc", "3"), set("B", "4")), writes(set("B", "4"), set("ab", "2"), set("abc", "3"), set("b", "1"))},
		{writes(set("carpet", "1"), set("car", "2")), writes(set("car", "2"), set("carpet", "1"))},
		{writes(set(key32, "1"), set(key32[1:], "2")), writes(set(key32[1:], "2"), set(key32, "1"))},
		{writes(set("\u00ea", "1"), set("\u00e9", "2")), writes(set("\u00e9", "2"), set("\u00ea", "1"))},
		{same(16, set("a", "1")), writes(set("a", "1"))},
		{many(16), many(16)},
		{at(16, 15, gone("a")), append(writes(gone("a")), many(15)...)},
	} {
		got, err := normalize(t, c.b)
		if err != api.OK || !slices.Equal(got, c.want) {
			t.Errorf("P15.2: row %d: Normalize(%v) is %v, %d", i, c.b, got, err)
		}
		if want := slices.Equal(c.b, c.want); normal(t, c.b) != want {
			t.Errorf("P15.2: row %d: Normal(%v) is %v", i, c.b, !want)
		}
		if again, err := normalize(t, c.want); err != api.OK || !slices.Equal(again, c.want) || !normal(t, c.want) {
			t.Errorf("P15.2: row %d: %v is not its own normal form", i, c.want)
		}
	}
}

// P15.2: what does not pass Check has no normal form, even if its keys are in ascending order.
func TestNormalizeErrors(t *testing.T) {
	for i, c := range []struct {
		b    []api.Write
		want api.Errno
	}{
		{many(17), api.ErrTooLarge},
		{same(17, set("a", "1")), api.ErrTooLarge},
		{writes(set(key33, "1")), api.ErrTooLarge},
		{writes(set("a", "1"), set("b", value65)), api.ErrTooLarge},
		{writes(set(key33, "1"), both("a", "1")), api.ErrTooLarge},
		{writes(both("a", "1"), set("b", value65)), api.ErrTooLarge},
		{writes(both("a", "1")), api.ErrInvalid},
		{writes(set("a", "1"), both("b", "2"), set("c", "3")), api.ErrInvalid},
		{writes(both("a", "1"), set("a", "2")), api.ErrInvalid},
		{writes(both("b", "1"), set("a", "2")), api.ErrInvalid},
	} {
		if got, err := normalize(t, c.b); err != c.want || len(got) != 0 {
			t.Errorf("P15.2: row %d: Normalize is %v, %d, and the error is not %d", i, got, err, c.want)
		}
		if normal(t, c.b) {
			t.Errorf("P15.2: row %d: Normal of what does not pass Check", i)
		}
	}
}

// P15.2
func TestNormal(t *testing.T) {
	for i, c := range []struct {
		b    []api.Write
		want bool
	}{
		{nil, true},
		{[]api.Write{}, true},
		{writes(set("", "")), true},
		{writes(gone("a")), true},
		{writes(set("a", "1"), gone("b")), true},
		{writes(set("", "1"), set("\x00", "1"), set("\x00\x00", "1")), true},
		{many(16), true},
		{writes(set("b", "1"), set("a", "2")), false},
		{writes(set("a", "1"), set("a", "1")), false},
		{writes(gone("a"), gone("a")), false},
		{writes(set("a", "1"), set("b", "2"), set("b", "3")), false},
		{writes(set("a", "1"), set("c", "2"), set("b", "3")), false},
		{writes(set("\x80", "1"), set("\x7f", "2")), false},
		{at(16, 15, gone("a")), false},
		{many(17), false},
	} {
		if normal(t, c.b) != c.want {
			t.Errorf("P15.2: row %d: Normal(%v) is %v", i, c.b, !c.want)
		}
	}
}

// Rule 9: the same answer again, whatever the order in which a map would give its keys.
func TestNormalizeAgain(t *testing.T) {
	b := many(16)
	slices.Reverse(b)
	for range 100 {
		if got, _ := normalize(t, b); !slices.Equal(got, many(16)) {
			t.Fatalf("P15.2: Normalize(%v) is %v", b, got)
		}
	}
}
