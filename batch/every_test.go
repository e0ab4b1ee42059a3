package batch

import (
	"slices"
	"testing"

	"blinktree/api"
)

// pool contains the keys of these tests, in ascending order.
var pool = []string{"", "a", "a\x00"}

// everyBatch calls use with all batches of at most a number of writes of the keys of the pool, valid or not. Writes with values have
// different ones in different positions, or empty ones.
func everyBatch(length int, use func(b []api.Write)) {
	var extend func(b []api.Write)
	extend = func(b []api.Write) {
		use(writes(b...))
		if len(b) == length {
			return
		}
		value := string(rune('p' + len(b)))
		for _, key := range pool {
			for _, w := range []api.Write{set(key, value), set(key, ""), gone(key), both(key, value)} {
				extend(append(b[:len(b):len(b)], w))
			}
		}
	}
	extend(nil)
}

// everyList returns the lists of entries whose keys are those of a subset of the pool.
func everyList() [][]api.Entry {
	all := [][]api.Entry{nil}
	for _, key := range pool {
		for _, l := range all {
			all = append(all, append(slices.Clone(l), api.Entry{Key: key, Value: "old " + key}))
		}
	}
	for i, l := range all {
		all[i] = roomy(spareEntry, l)
	}
	return all
}

// isContradictory reports whether a write of a batch has Delete and a value.
func isContradictory(b []api.Write) bool {
	return slices.ContainsFunc(b, func(w api.Write) bool { return w.Delete && w.Value != "" })
}

// normalForm is P15.2, read word for word: for each key the last write, in ascending order of keys.
func normalForm(b []api.Write) []api.Write {
	var form []api.Write
	for _, key := range pool {
		for i := len(b) - 1; i >= 0; i-- {
			if b[i].Key == key {
				form = append(form, b[i])
				break
			}
		}
	}
	return form
}

// perform is P15.3, read word for word: the writes one after the other, each on the whole list of entries.
func perform(l []api.Entry, b []api.Write) []api.Entry {
	values := map[string]string{}
	for _, e := range l {
		values[e.Key] = e.Value
	}
	for _, w := range b {
		delete(values, w.Key)
		if !w.Delete {
			values[w.Key] = w.Value
		}
	}
	var result []api.Entry
	for _, key := range pool {
		if value, in := values[key]; in {
			result = append(result, api.Entry{Key: key, Value: value})
		}
	}
	return result
}

// P15.1 and P15.2
func TestEveryBatch(t *testing.T) {
	ordinary := 0
	everyBatch(4, func(b []api.Write) {
		want, form := api.OK, normalForm(b)
		if isContradictory(b) {
			want, form = api.ErrInvalid, nil
		}
		if got := check(t, b); got != want {
			t.Fatalf("P15.1: Check(%v) is %d", b, got)
		}
		if got, err := normalize(t, b); err != want || !slices.Equal(got, form) {
			t.Fatalf("P15.2: Normalize(%v) is %v, %d", b, got, err)
		}
		is := want == api.OK && slices.Equal(b, form)
		if got := normal(t, b); got != is {
			t.Fatalf("P15.2: Normal(%v) is %v", b, got)
		}
		if is {
			ordinary++
		}
	})
	// Each of three keys has one of three writes or none.
	if want := 4 * 4 * 4; ordinary != want {
		t.Errorf("P15.2: %d batches are normal, not %d", ordinary, want)
	}
}

// P15.3
func TestEveryApply(t *testing.T) {
	lists := everyList()
	everyBatch(4, func(b []api.Write) {
		for _, l := range lists {
			if got, want := apply(t, l, b), perform(l, b); !slices.Equal(got, want) {
				t.Fatalf("P15.3: Apply(%v, %v) is %v, not %v", l, b, got, want)
			}
		}
	})
}

// P15.3: a batch and its parts, one after the other, give the same entries.
func TestApplyInParts(t *testing.T) {
	lists := everyList()
	everyBatch(3, func(b []api.Write) {
		for _, l := range lists {
			want := apply(t, l, b)
			for i := range len(b) + 1 {
				if got := apply(t, apply(t, l, b[:i]), b[i:]); !slices.Equal(got, want) {
					t.Fatalf("P15.3: Apply(%v, %v) is %v, and %v in two parts at %d", l, b, want, got, i)
				}
			}
		}
	})
}

// P15.4
func TestApplyNormalForm(t *testing.T) {
	lists := everyList()
	everyBatch(4, func(b []api.Write) {
		form, err := normalize(t, b)
		if err != api.OK {
			return
		}
		for _, l := range lists {
			if got, want := apply(t, l, form), apply(t, l, b); !slices.Equal(got, want) {
				t.Fatalf("P15.4: Apply(%v, %v) is %v, and %v for its normal form", l, b, want, got)
			}
		}
	})
}

// P15.4: batches of the greatest size, on lists that contain about half of their keys.
func TestApplyNormalFormOfLarge(t *testing.T) {
	seed := uint64(1)
	next := func(n int) int {
		seed = seed*6364136223846793005 + 1442695040888963407
		return int(seed>>33) % n
	}
	for range 2000 {
		var b []api.Write
		for i := range api.MaxBatch {
			w := set(name(next(20)), string(rune('a'+i)))
			if next(3) == 0 {
				w = gone(w.Key)
			}
			b = append(b, w)
		}
		var l []api.Entry
		for i := range 20 {
			if next(2) == 0 {
				l = append(l, api.Entry{Key: name(i), Value: "old"})
			}
		}
		form, err := normalize(t, b)
		if err != api.OK || !normal(t, form) {
			t.Fatalf("P15.2: Normalize(%v) is %v, %d", b, form, err)
		}
		one := l
		for i := range b {
			one = apply(t, one, b[i:i+1])
		}
		if whole, short := apply(t, l, b), apply(t, l, form); !slices.Equal(whole, short) || !slices.Equal(whole, one) {
			t.Fatalf("P15.3 and P15.4: on %v, %v gives %v, its normal form %v, and its writes one by one %v", l, b, whole, short, one)
		}
	}
}
