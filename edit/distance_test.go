package edit_test

import (
	"fmt"
	"math"
	"strings"
	"testing"

	"drachm/edit"
)

// byHand are distances reckoned by hand.
var byHand = []struct {
	a, b string
	far  int
}{
	{"", "", 0},
	{"mmol", "mol/l", 3}, // the document's own
	{"mol", "mol", 0},
	{"mol", "xmol", 1}, // put in, at the beginning, in the middle, at the end
	{"mol", "mxol", 1},
	{"mol", "molx", 1},
	{"mol", "ol", 1}, // taken out
	{"mol", "ml", 1},
	{"mol", "mo", 1},
	{"mol", "xol", 1}, // changed
	{"mol", "mxl", 1},
	{"mol", "mox", 1},
	{"", "m", 1},
	{"", "mol", 3},
	{"m", "\x00", 1},
	{"abc", "xyz", 3}, // nothing in common
	{"abc", "vwxyz", 5},
	{"ab", "ba", 2}, // no step changes the order of two
	{"abcd", "badc", 3},
	{"m", "M", 1}, // no letter is another's
	{"kitten", "sitting", 3},
	{"saturday", "sunday", 3},
	{"flaw", "lawn", 2},
	{"aaaa", "aa", 2},
	{"abab", "baba", 2},
	{"a", "aaaaa", 4},
	{"abcdef", "azced", 3},
	{"intention", "execution", 5},
	{"\u00b5m", "m", 2}, // a step is of a byte: the letter has two
	{"\u00b5", "\u00b6", 1},
	{"\u00b5", "u", 2},
	{"\u00e9", "\u20ac", 3}, // c3 a9 and e2 82 ac
	{"\u20ac", "\u20ad", 1},
	{"\xff", "\xfe", 1},
	{"\xff\xff", "", 2},
	{"a\x00b", "ab", 1},
}

// P16.1: distances.
func TestDistanceByHand(t *testing.T) {
	for _, x := range byHand {
		is(t, fmt.Sprintf("Distance(%q, %q)", x.a, x.b), edit.Distance(x.a, x.b), x.far)
		is(t, fmt.Sprintf("Distance(%q, %q)", x.b, x.a), edit.Distance(x.b, x.a), x.far)
	}
}

// P16.1: a k just at the distance and one below it, 0, below 0, and far above it.
func TestWithinByHand(t *testing.T) {
	for _, x := range byHand {
		for _, k := range []int{math.MinInt, -x.far - 1, -x.far, -3, -1, 0, 1, x.far - 1, x.far, x.far + 1, 2*x.far + 3, 1000, math.MaxInt - 1, math.MaxInt} {
			want := fmt.Sprint(x.far, true)
			if x.far > k {
				want = fmt.Sprint(0, false)
			}
			far, near := edit.Within(x.a, x.b, k)
			is(t, fmt.Sprintf("Within(%q, %q, %d)", x.a, x.b, k), fmt.Sprint(far, near), want)
			far, near = edit.Within(x.b, x.a, k)
			is(t, fmt.Sprintf("Within(%q, %q, %d)", x.b, x.a, k), fmt.Sprint(far, near), want)
		}
	}
}

// P16.1: between all texts of three bytes up to a length, as many steps as it takes to go from one to the other. (Longer texts on the way lead nowhere sooner: one byte more than the longest is let be, to see it.)
func TestDistanceIsWalked(t *testing.T) {
	const length = 4
	all := textsTo(length)
	for _, a := range all {
		far := walked(a, length+1)
		for _, b := range all {
			if got := edit.Distance(a, b); got != far[b] {
				t.Fatalf("Distance(%q, %q): %d, want %d", a, b, got, far[b])
			}
			for k := -2; k <= length+2; k++ {
				got, near := edit.Within(a, b, k)
				if near != (far[b] <= k) || near && got != far[b] || !near && got != 0 {
					t.Fatalf("Within(%q, %q, %d): %d, %t, and they lie %d apart", a, b, k, got, near, far[b])
				}
			}
		}
	}
}

// P16.1: texts that look drawn, of few bytes and of all, of unlike lengths, at each k up to beyond their distance.
func TestDistanceOfDrawnTexts(t *testing.T) {
	t.Parallel()
	every := ""
	for c := range 256 {
		every += string([]byte{byte(c)})
	}
	c := chance(16)
	for range 3000 {
		bytes := []string{"ab", "abcd", "mol/.", every}[c.below(4)]
		a, b := c.text(bytes, 40), c.text(bytes, 40)
		if c.below(2) == 0 { // near ones: some steps of the first
			b = a
			for range c.below(5) {
				at := c.below(len(b) + 1)
				b = b[:at] + c.text(bytes, 2) + b[min(len(b), at+c.below(3)):]
			}
		}
		far := apart(a, b)
		if got := edit.Distance(a, b); got != far {
			t.Fatalf("Distance(%q, %q): %d, want %d", a, b, got, far)
		}
		for k := range max(len(a), len(b)) + 2 {
			got, near := edit.Within(a, b, k)
			if near != (far <= k) || near && got != far || !near && got != 0 {
				t.Fatalf("Within(%q, %q, %d): %d, %t, and they lie %d apart", a, b, k, got, near, far)
			}
		}
	}
}

// P16.1, R5: texts of any length are answered.
func TestLongTexts(t *testing.T) {
	t.Parallel()
	const length = 1 << 20
	long := strings.Repeat("mol/", length/4)
	middle := long[:length/2] + "x" + long[length/2+1:]
	for _, x := range []struct {
		a, b string
		far  int
	}{
		{long, long, 0},
		{long, "", length},
		{long, "m", length - 1},
		{long, "x", length},
		{long, "x" + long, 1},
		{long, long[1:], 1},
		{long, long + "xy", 2},
		{long, middle, 1},
		{long, "y" + middle + "z", 3},
		{long, long[1:] + "m", 2},
	} {
		is(t, fmt.Sprintf("Distance of %d and %d bytes", len(x.a), len(x.b)), edit.Distance(x.a, x.b), x.far)
		is(t, fmt.Sprintf("Distance of %d and %d bytes", len(x.b), len(x.a)), edit.Distance(x.b, x.a), x.far)
	}
	one, other := strings.Repeat("a", 3000), strings.Repeat("b", 2900)
	is(t, "nothing in common", edit.Distance(one, other), 3000)
	far, near := edit.Within(long, strings.Repeat("x", length), 3)
	is(t, "far off", fmt.Sprint(far, near), "0 false")
	far, near = edit.Within(long, "y"+middle+"z", 3)
	is(t, "at k", fmt.Sprint(far, near), "3 true")
	far, near = edit.Within(long, "y"+middle+"z", 2)
	is(t, "below k", fmt.Sprint(far, near), "0 false")
	far, near = edit.Within(long, "", math.MaxInt)
	is(t, "nothing", fmt.Sprint(far, near), fmt.Sprint(length, true))
}

// R4: the same calls have the same answers.
func TestSameAgain(t *testing.T) {
	for range 3 {
		is(t, "Distance", edit.Distance("mmol", "mol/l"), 3)
		far, near := edit.Within("mmol", "mol/l", 3)
		is(t, "Within", fmt.Sprint(far, near), "3 true")
		is(t, "Next", edit.Next("mg", edit.Start("mg"), 'g'), "[1 1 1]")
	}
}
