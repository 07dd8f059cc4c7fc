package edit

import "math"

// Start is the row of a text behind the empty text.
func Start(w string) []int {
	row := make([]int, len(w)+1)
	for i := range len(row) {
		row[i] = i
	}
	return row
}

// Next is the row of a text behind what a row of it is behind, and one more byte.
func Next(w string, row []int, c byte) []int {
	if len(row) != len(w)+1 {
		return nil
	}
	next := make([]int, len(row))
	fill(next, row, w, c)
	return next
}

// Least is the least number of a row, 0 of an empty one.
func Least(row []int) int {
	return least(row...)
}

// fill puts down the row behind one more byte. Rows are as long as one another, and have one number more than the text has bytes.
func fill(next, row []int, w string, c byte) {
	changed := func(i int) int {
		if w[i] == c {
			return 0
		}
		return 1
	}
	next[0] = more(row[0], 1)
	for i := range len(w) {
		next[i+1] = least(more(row[i+1], 1), more(next[i], 1), more(row[i], changed(i)))
	}
}

// least is the least of some numbers, 0 of none.
func least(some ...int) int {
	if len(some) == 0 {
		return 0
	}
	n := some[0]
	for _, x := range some[1:] {
		n = min(n, x)
	}
	return n
}

// more is a number and some steps. It never goes round: a number beyond the limit of int would be the least one else, and hide those that are.
func more(x, steps int) int {
	if x > math.MaxInt-steps {
		return math.MaxInt
	}
	return x + steps
}
