package edit_test

import (
	"testing"

	"drachm/edit"
)

// P16.3: the distance goes both ways, and is 0 of the same text alone.
func TestBothWays(t *testing.T) {
	all := textsTo(4)
	for _, a := range all {
		for _, b := range all {
			far := edit.Distance(a, b)
			if far != edit.Distance(b, a) || far < 0 || (far == 0) != (a == b) {
				t.Fatalf("%q and %q: %d, back %d", a, b, far, edit.Distance(b, a))
			}
			one, near := edit.Within(a, b, 0)
			if near != (a == b) || one != 0 {
				t.Fatalf("%q and %q within 0: %d, %t", a, b, one, near)
			}
		}
	}
}

// P16.3: by way of a third text it is never shorter.
func TestNoShorterWay(t *testing.T) {
	all := textsTo(4)
	far := make([][]int, len(all))
	for i, a := range all {
		for _, b := range all {
			far[i] = append(far[i], edit.Distance(a, b))
		}
	}
	for i, a := range all {
		for j, b := range all {
			for k, c := range all {
				if far[i][j] > far[i][k]+far[k][j] {
					t.Fatalf("%q and %q lie %d apart, by way of %q %d", a, b, far[i][j], c, far[i][k]+far[k][j])
				}
			}
		}
	}
}

// P16.3: the least number of a row never falls behind more bytes.
func TestLeastNeverFalls(t *testing.T) {
	c := chance(9)
	for range 3000 {
		w, s := c.text("abc\xe2", 12), c.text("abc\xe2", 24)
		row := edit.Start(w)
		least := edit.Least(row)
		if least != 0 {
			t.Fatalf("%q: %d", w, least)
		}
		for i := range len(s) {
			row = edit.Next(w, row, s[i])
			if edit.Least(row) < least {
				t.Fatalf("row of %q behind %q: %v, and the least was %d", w, s[:i+1], row, least)
			}
			least = edit.Least(row)
		}
		if far := edit.Distance(w, s); far < least {
			t.Fatalf("%q and %q lie %d apart, and the least is %d", w, s, far, least)
		}
	}
}
