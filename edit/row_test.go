package edit_test

import (
	"fmt"
	"math"
	"slices"
	"strings"
	"testing"

	"drachm/edit"
)

// behind is the row of w behind a text, gone byte by byte.
func behind(w, s string) []int {
	row := edit.Start(w)
	for i := range len(s) {
		row = edit.Next(w, row, s[i])
	}
	return row
}

// P16.2: the row behind the empty text.
func TestStart(t *testing.T) {
	is(t, "of nothing", edit.Start(""), "[0]")
	is(t, "of one byte", edit.Start("m"), "[0 1]")
	is(t, "of a word", edit.Start("mol/l"), "[0 1 2 3 4 5]")
	is(t, "of a letter of two bytes", edit.Start("\u00b5"), "[0 1 2]")
	row := edit.Start(strings.Repeat("x", 1<<20))
	is(t, "length", len(row), 1<<20+1)
	for i, n := range row {
		if n != i {
			t.Fatalf("place %d: %d", i, n)
		}
	}
}

// P16.2: rows written by hand.
func TestNextByHand(t *testing.T) {
	for _, x := range []struct{ w, s, row string }{
		{"", "", "[0]"},
		{"", "m", "[1]"},
		{"", "mol", "[3]"},
		{"mg", "m", "[1 0 1]"},
		{"mg", "g", "[1 1 1]"},
		{"mg", "mg", "[2 1 0]"},
		{"mg", "gm", "[2 1 2]"},
		{"mg", "x", "[1 1 2]"},
		{"mol", "m", "[1 0 1 2]"},
		{"mol", "mm", "[2 1 1 2]"},
		{"mol", "mmo", "[3 2 1 2]"},
		{"mol", "mmol", "[4 3 2 1]"},
		{"aaa", "a", "[1 0 1 2]"},
		{"aaa", "aa", "[2 1 0 1]"},
		{"\u00b5", "\xc2", "[1 0 1]"},
		{"\u00b5", "\xb5", "[1 1 1]"},
		{"\x00\xff", "\xff", "[1 1 1]"},
		{"\x00\xff", "\x00", "[1 0 1]"},
		{"aA", "A", "[1 1 1]"},
	} {
		is(t, fmt.Sprintf("row of %q behind %q", x.w, x.s), behind(x.w, x.s), x.row)
	}
}

// P16.2: each number of a row is the distance of the first bytes, the last one that of both.
func TestRowsAreDistances(t *testing.T) {
	const length = 4
	all := textsTo(length)
	for _, s := range all {
		far := walked(s, length+1)
		for _, w := range all {
			row := behind(w, s)
			if len(row) != len(w)+1 {
				t.Fatalf("row of %q behind %q: %v", w, s, row)
			}
			for i, n := range row {
				if n != far[w[:i]] {
					t.Fatalf("row of %q behind %q: %v, at %d want %d", w, s, row, i, far[w[:i]])
				}
			}
			if row[len(w)] != edit.Distance(w, s) || row[len(w)] != edit.Distance(s, w) {
				t.Fatalf("row of %q behind %q: %v, and they lie %d apart", w, s, row, edit.Distance(w, s))
			}
		}
	}
}

// P16.2: rows of texts that look drawn, behind each beginning.
func TestRowsOfDrawnTexts(t *testing.T) {
	c := chance(3)
	for range 200 {
		w, s := c.text("ab/\xc2\xb5", 30), c.text("ab/\xc2\xb5", 30)
		row := edit.Start(w)
		for at := range len(s) {
			row = edit.Next(w, row, s[at])
			for i, n := range row {
				if n != apart(w[:i], s[:at+1]) {
					t.Fatalf("row of %q behind %q: %v, at %d want %d", w, s[:at+1], row, i, apart(w[:i], s[:at+1]))
				}
			}
		}
	}
}

// P16.2: of a row that has not one number more than w bytes nothing is told.
func TestNextOfNoRow(t *testing.T) {
	for _, w := range []string{"", "m", "mg", "mol/l", "\u00b5", strings.Repeat("x", 5000)} {
		for _, length := range []int{0, 1, 2, 3, 4, 5, 6, 7, 100, 4999, 5000, 5001, 5002} {
			row := edit.Next(w, make([]int, length), 'm')
			want := length
			if length != len(w)+1 {
				want = 0
			}
			if len(row) != want {
				t.Errorf("Next of %d bytes and a row of %d numbers: %d numbers, want %d", len(w), length, len(row), want)
			}
		}
		if row := edit.Next(w, nil, 'm'); len(row) != 0 {
			t.Errorf("Next of %d bytes and nil: %v", len(w), row)
		}
	}
	is(t, "letters are no bytes", edit.Next("\u00b5", []int{0, 1}, 'm'), "[]")
	is(t, "a spare place is no number", edit.Next("mg", make([]int, 2, 3), 'm'), "[]")
}

// P16.2: rows of other numbers, by hand; a number beyond int is told as the greatest of it, and hides none that is in it.
func TestNextOfOtherRows(t *testing.T) {
	const most, least = math.MaxInt, math.MinInt
	for _, x := range []struct {
		w    string
		row  []int
		c    byte
		want []int
	}{
		{"", []int{7}, 'a', []int{8}},
		{"", []int{-7}, 'a', []int{-6}},
		{"", []int{least}, 'a', []int{least + 1}},
		{"", []int{most - 1}, 'a', []int{most}},
		{"", []int{most}, 'a', []int{most}},
		{"ab", []int{0, 0, 0}, 'a', []int{1, 0, 1}},
		{"ab", []int{0, 0, 0}, 'b', []int{1, 1, 0}},
		{"ab", []int{0, 0, 0}, 'x', []int{1, 1, 1}},
		{"ab", []int{5, 5, 5}, 'x', []int{6, 6, 6}},
		{"ab", []int{9, 0, 9}, 'x', []int{10, 1, 1}},
		{"ab", []int{9, 0, 9}, 'b', []int{10, 1, 0}},
		{"ab", []int{0, 9, 9}, 'x', []int{1, 1, 2}},
		{"ab", []int{-3, 9, 9}, 'a', []int{-2, -3, -2}},
		{"ab", []int{9, 9, -3}, 'a', []int{10, 9, -2}},
		{"ab", []int{-1, -2, -3}, 'x', []int{0, -1, -2}},
		{"abc", []int{-9, 100, 100, -100}, 'c', []int{-8, -8, -7, -99}},
		{"a", []int{least, least}, 'a', []int{least + 1, least}},
		{"a", []int{least, most}, 'x', []int{least + 1, least + 1}},
		{"a", []int{most, least}, 'x', []int{most, least + 1}},
		{"a", []int{most, 5}, 'x', []int{most, 6}},
		{"ab", []int{most, 5, most}, 'b', []int{most, 6, 5}},
		{"ab", []int{most, most, most}, 'x', []int{most, most, most}},
		{"ab", []int{most, most, most}, 'b', []int{most, most, most}},
		{"ab", []int{most - 1, most, most}, 'x', []int{most, most, most}},
		{"ab", []int{most, most - 1, most - 2}, 'x', []int{most, most, most - 1}},
	} {
		is(t, fmt.Sprintf("Next(%q, %v, %q)", x.w, x.row, x.c), edit.Next(x.w, x.row, x.c), x.want)
	}
}

// P16.2: rows of other numbers, up to the limits of int, by the same rules.
func TestNextOfDrawnRows(t *testing.T) {
	kinds := []func(c *chance) int{
		func(c *chance) int { return c.below(9) - 4 },
		func(c *chance) int { return math.MaxInt - c.below(3) },
		func(c *chance) int { return math.MinInt + c.below(3) },
		func(c *chance) int { return c.below(1<<30) - 1<<29 },
	}
	c := chance(2)
	for range 20000 {
		w := c.text("ab\xff", 8)
		row := make([]int, len(w)+1)
		same := c.below(2 * len(kinds))
		for i := range row {
			kind := same
			if same >= len(kinds) {
				kind = c.below(len(kinds))
			}
			row[i] = kinds[kind](&c)
		}
		was := slices.Clone(row)
		by := "abx\xff"[c.below(4)]
		if got, want := edit.Next(w, row, by), nextOf(w, row, by); !slices.Equal(got, want) {
			t.Fatalf("Next(%q, %v, %q): %v, want %v", w, row, by, got, want)
		}
		if !slices.Equal(row, was) {
			t.Fatalf("Next(%q, %v, %q) left %v", w, was, by, row)
		}
	}
}

// R3: a row that is handed in is as it was, beyond its end, too, and shares nothing with the one that is told.
func TestRowsAreTheCallers(t *testing.T) {
	whole := []int{0, 1, 2, 77, 78}
	row := whole[:3]
	next := edit.Next("mg", row, 'g')
	again := edit.Next("mg", row, 'g')
	is(t, "row", whole, "[0 1 2 77 78]")
	for i := range next {
		next[i] = 50 + i
	}
	is(t, "row", whole, "[0 1 2 77 78]")
	is(t, "next", again, "[1 1 1]")
	row[0] = 33
	is(t, "next", again, "[1 1 1]")
	one, other := edit.Start("mg"), edit.Start("mg")
	one[1] = 9
	is(t, "Start", other, "[0 1 2]")
	is(t, "Least", edit.Least(whole[3:]), 77)
	is(t, "whole", whole, "[33 1 2 77 78]")
}

// P16.2: the least number of a row.
func TestLeast(t *testing.T) {
	for _, x := range []struct {
		row   []int
		least int
	}{
		{nil, 0},
		{[]int{}, 0},
		{make([]int, 0, 5), 0},
		{[]int{0}, 0},
		{[]int{7}, 7},
		{[]int{-7}, -7},
		{[]int{1, 2, 3}, 1},
		{[]int{3, 1, 2}, 1},
		{[]int{3, 2, 1}, 1},
		{[]int{2, 2, 2}, 2},
		{[]int{5, 0, 5}, 0},
		{[]int{-1, -5, -3}, -5},
		{[]int{4, -1}, -1},
		{[]int{-1, 4}, -1},
		{[]int{math.MaxInt}, math.MaxInt},
		{[]int{math.MaxInt, math.MinInt}, math.MinInt},
		{[]int{math.MinInt, math.MaxInt}, math.MinInt},
		{[]int{math.MaxInt, math.MaxInt - 1}, math.MaxInt - 1},
	} {
		is(t, fmt.Sprintf("Least(%v)", x.row), edit.Least(x.row), x.least)
	}
	long := make([]int, 1<<20)
	for at := range 3 {
		at *= len(long)/2 - 1
		long[at] = -4
		is(t, fmt.Sprintf("a long row, least at %d", at), edit.Least(long), -4)
		long[at] = 0
	}
}
