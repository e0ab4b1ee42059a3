package keys

import (
	"strings"
	"testing"

	"blinktree/api"
)

// ascending contains keys in ascending order: equal beginnings, zero bytes, bytes that are not UTF-8, and keys of the
// greatest length and beyond.
var ascending = []string{
	"", "\x00", "\x00\x00", "\x00\x01", "\x00\xff", "\x01", "A", "Z", "a", "a\x00", "a\x00\x00", "a\x00b", "a\x01", "ab",
	"apple", "apple\xff", "b", "banana", "car", "carpet", strings.Repeat("k", api.MaxKey), strings.Repeat("k", api.MaxKey+1),
	"\x7f", "\x80", "\xc3", "\xc3\x28", "\u00e9", "\xed\xa0\x80", "\U0001f600", "\xfe\xff", "\xff", "\xff\x00", "\xff\xff",
}

// small returns all strings of at most n bytes of the given alphabet.
func small(alphabet string, n int) []string {
	all := []string{""}
	last := all
	for range n {
		var longer []string
		for _, s := range last {
			for i := range len(alphabet) {
				longer = append(longer, s+alphabet[i:i+1])
			}
		}
		all = append(all, longer...)
		last = longer
	}
	return all
}

// less compares byte by byte, as a reference that does not use the operators of strings.
func less(a, b string) bool {
	x, y := []byte(a), []byte(b)
	for i := range x {
		if i >= len(y) {
			return false
		}
		if x[i] != y[i] {
			return x[i] < y[i]
		}
	}
	return len(x) < len(y)
}

// P1.1
func TestValidKeyAndValidValue(t *testing.T) {
	for _, unit := range []string{"a", "\x00", "\xff", "\x80"} {
		for n := range 2*api.MaxValue + 1 {
			s := strings.Repeat(unit, n)
			if got, want := ValidKey(s), n <= 32; got != want {
				t.Errorf("P1.1: ValidKey of %d bytes %q: %v", n, unit, got)
			}
			if got, want := ValidValue(s), n <= 64; got != want {
				t.Errorf("P1.1: ValidValue of %d bytes %q: %v", n, unit, got)
			}
		}
	}
	if long := strings.Repeat("x", 1<<20); ValidKey(long) || ValidValue(long) {
		t.Error("P1.1: a long string is valid")
	}
}

// P1.1: the limits count bytes, not runes.
func TestValidCountsBytes(t *testing.T) {
	rune2 := "\u00e9"
	for _, c := range []struct {
		s          string
		key, value bool
	}{
		{strings.Repeat(rune2, 16), true, true},
		{strings.Repeat(rune2, 17), false, true},
		{strings.Repeat(rune2, 16) + "a", false, true},
		{strings.Repeat(rune2, 32), false, true},
		{strings.Repeat(rune2, 32) + "a", false, false},
		{strings.Repeat(rune2, 33), false, false},
	} {
		if ValidKey(c.s) != c.key || ValidValue(c.s) != c.value {
			t.Errorf("P1.1: %d bytes in runes: %v, %v", len(c.s), ValidKey(c.s), ValidValue(c.s))
		}
	}
}

// P1.2
func TestCompare(t *testing.T) {
	for i, a := range ascending {
		for j, b := range ascending {
			want := 0
			if i < j {
				want = -1
			}
			if i > j {
				want = 1
			}
			if got := Compare(a, b); got != want {
				t.Errorf("P1.2: Compare(%q, %q) is %d, want %d", a, b, got, want)
			}
		}
	}
}

// P1.2: equal strings are equal wherever their bytes lie.
func TestCompareEqualCopies(t *testing.T) {
	for _, a := range ascending {
		if got := Compare(a, strings.Clone(a)); got != 0 {
			t.Errorf("P1.2: Compare of %q and its copy is %d", a, got)
		}
	}
}

// P1.2: every byte counts without a sign, and Compare agrees with a comparison byte by byte.
func TestCompareBytes(t *testing.T) {
	for i := range 256 {
		for j := range 256 {
			want := 0
			if i < j {
				want = -1
			}
			if i > j {
				want = 1
			}
			if got := Compare(string([]byte{'k', byte(i)}), string([]byte{'k', byte(j)})); got != want {
				t.Errorf("P1.2: bytes %d and %d: %d", i, j, got)
			}
		}
	}
	all := small("\x00a\xff", 4)
	for _, a := range all {
		for _, b := range all {
			if got := Compare(a, b); (got == -1) != less(a, b) || (got == 1) != less(b, a) {
				t.Errorf("P1.2: Compare(%q, %q) is %d", a, b, got)
			}
		}
	}
}

// P1.2
func TestSuccessor(t *testing.T) {
	for _, a := range ascending {
		if got := Successor(a); got != a+"\x00" {
			t.Errorf("P1.2: Successor(%q) is %q", a, got)
		}
	}
	longest := strings.Repeat("\xff", api.MaxKey)
	if got := Successor(longest); got != longest+"\x00" {
		t.Errorf("P1.2: Successor of a key of the greatest length is %q", got)
	}
}

// P1.2: no string lies between a string and its successor.
func TestSuccessorIsLeast(t *testing.T) {
	for _, a := range small("\x00a\xff", 3) {
		s := Successor(a)
		if !less(a, s) {
			t.Errorf("P1.2: Successor(%q) is %q", a, s)
		}
		for _, b := range small("\x00a\xff", 4) {
			if less(a, b) && less(b, s) {
				t.Errorf("P1.2: %q lies between %q and %q", b, a, s)
			}
		}
	}
}

// shortest tries all prefixes of b, as P1.3 reads.
func shortest(a, b string) string {
	for n := range len(b) + 1 {
		if less(a, b[:n]) {
			return b[:n]
		}
	}
	return ""
}

// P1.3
func TestSeparator(t *testing.T) {
	all := append(small("\x00a\xff", 4), ascending...)
	for _, a := range all {
		for _, b := range all {
			want := ""
			if less(a, b) {
				want = shortest(a, b)
			}
			if got := Separator(a, b); got != want {
				t.Errorf("P1.3: Separator(%q, %q) is %q, want %q", a, b, got, want)
			}
		}
	}
}

// P1.3: the chapter's examples, and the edges.
func TestSeparatorExamples(t *testing.T) {
	long := strings.Repeat("k", api.MaxKey)
	for _, c := range []struct{ a, b, want string }{
		{"apple", "banana", "b"},
		{"car", "carpet", "carp"},
		{"", "", ""},
		{"", "banana", "b"},
		{"", "\x00", "\x00"},
		{"", "\x00\x00", "\x00"},
		{"a", "", ""},
		{"b", "b", ""},
		{"banana", "apple", ""},
		{"carpet", "car", ""},
		{"a", "a\x00", "a\x00"},
		{"a", "a\x00\x00", "a\x00"},
		{"a\xff\xff", "b", "b"},
		{"ab", "ad", "ad"},
		{"\x7fz", "\x80z", "\x80"},
		{"\u00e9", "\u00ea", "\u00ea"},
		{"\u00e9", "\U0001f600", "\xf0"},
		{long, long, ""},
		{long, long + "k", long + "k"},
		{long[1:] + "a", long, long},
		{long[1:], long + "z", long},
	} {
		if got := Separator(c.a, c.b); got != c.want {
			t.Errorf("P1.3: Separator(%q, %q) is %q, want %q", c.a, c.b, got, c.want)
		}
	}
}

// P1.4
func TestWithin(t *testing.T) {
	long := strings.Repeat("k", api.MaxKey)
	for _, c := range []struct {
		key, low, high string
		last, want     bool
	}{
		{"b", "a", "c", false, true},
		{"a", "a", "c", false, true},
		{"c", "a", "c", false, false},
		{"d", "a", "c", false, false},
		{"", "a", "c", false, false},
		{"c", "a", "c", true, true},
		{"d", "a", "c", true, true},
		{"a", "a", "", true, true},
		{"a", "a", "", false, false},
		{"", "a", "c", true, false},
		{"", "", "", false, false},
		{"", "", "", true, true},
		{"", "", "\x00", false, true},
		{"b", "b", "b", false, false},
		{"b", "b", "b", true, true},
		{"b", "c", "a", false, false},
		{"b", "c", "a", true, false},
		{"a\xff", "a", "b", false, true},
		{"\x80", "\x7f", "\xff", false, true},
		{"\xff", "\x7f", "\x80", false, false},
		{long, "k", long + "\x00", false, true},
		{long + "k", long, long + "\x00", false, false},
	} {
		if got := Within(c.key, c.low, c.high, c.last); got != c.want {
			t.Errorf("P1.4: Within(%q, %q, %q, %v) is %v", c.key, c.low, c.high, c.last, got)
		}
	}
}

// P1.4: bounds in every order.
func TestWithinAll(t *testing.T) {
	for k, key := range ascending {
		for i, low := range ascending {
			for j, high := range ascending {
				if got, want := Within(key, low, high, false), k >= i && k < j; got != want {
					t.Errorf("P1.4: Within(%q, %q, %q, false) is %v", key, low, high, got)
				}
				if got, want := Within(key, low, high, true), k >= i; got != want {
					t.Errorf("P1.4: Within(%q, %q, %q, true) is %v", key, low, high, got)
				}
			}
		}
	}
}
