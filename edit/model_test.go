package edit_test

import (
	"fmt"
	"math"
	"math/big"
	"testing"
)

func is(t *testing.T, what string, got, want any) {
	t.Helper()
	if g, w := fmt.Sprint(got), fmt.Sprint(want); g != w {
		t.Errorf("%s: %s, want %s", what, g, w)
	}
}

// bytesUsed are those of the texts that are gone through all: three, of which one is beyond ASCII and no letter by itself.
const bytesUsed = "ab\xc3"

// textsTo are all texts of these bytes up to a length, shorter ones first.
func textsTo(length int) []string {
	all := []string{""}
	for from := 0; len(all[from]) < length; from++ {
		for i := range len(bytesUsed) {
			all = append(all, all[from]+bytesUsed[i:i+1])
		}
	}
	return all
}

// stepsOff are all texts that one step makes of a text: a byte put in, taken out, or changed.
func stepsOff(s string) []string {
	var all []string
	for at := 0; at <= len(s); at++ {
		for i := range len(bytesUsed) {
			all = append(all, s[:at]+bytesUsed[i:i+1]+s[at:])
			if at < len(s) {
				all = append(all, s[:at]+bytesUsed[i:i+1]+s[at+1:])
			}
		}
		if at < len(s) {
			all = append(all, s[:at]+s[at+1:])
		}
	}
	return all
}

// walked is how many steps lead from a text to each other one up to a length, found by going them.
func walked(from string, length int) map[string]int {
	far := map[string]int{from: 0}
	for reached := []string{from}; len(reached) > 0; reached = reached[1:] {
		for _, s := range stepsOff(reached[0]) {
			if _, was := far[s]; !was && len(s) <= length {
				far[s] = far[reached[0]] + 1
				reached = append(reached, s)
			}
		}
	}
	return far
}

// apart is the distance of texts by the table of all their beginnings, whole.
func apart(a, b string) int {
	table := make([][]int, len(a)+1)
	for i := range table {
		table[i] = make([]int, len(b)+1)
		for j := range table[i] {
			switch {
			case i == 0 || j == 0:
				table[i][j] = i + j
			case a[i-1] == b[j-1]:
				table[i][j] = table[i-1][j-1]
			default:
				table[i][j] = 1 + min(table[i-1][j-1], table[i-1][j], table[i][j-1])
			}
		}
	}
	return table[len(a)][len(b)]
}

// nextOf is the row that the rules of P16.2 make of any row, by numbers without limits; one beyond int is told as the greatest of it.
func nextOf(w string, row []int, c byte) []int {
	plus := func(x *big.Int, n int64) *big.Int { return new(big.Int).Add(x, big.NewInt(n)) }
	var exact []*big.Int
	for i := range row {
		n := plus(big.NewInt(int64(row[i])), 1)
		if i > 0 {
			off := int64(1)
			if w[i-1] == c {
				off = 0
			}
			for _, other := range []*big.Int{plus(exact[i-1], 1), plus(big.NewInt(int64(row[i-1])), off)} {
				if other.Cmp(n) < 0 {
					n = other
				}
			}
		}
		exact = append(exact, n)
	}
	next := make([]int, len(row))
	for i, n := range exact {
		next[i] = math.MaxInt
		if n.IsInt64() {
			next[i] = int(n.Int64())
		}
	}
	return next
}

// chance is a row of numbers that look drawn, the same ones at each run.
type chance uint64

func (c *chance) below(n int) int {
	*c = *c*6364136223846793005 + 1442695040888963407
	return int(uint64(*c>>33) % uint64(n))
}

// text is one of some bytes, of a length up to most.
func (c *chance) text(bytes string, most int) string {
	s := make([]byte, c.below(most+1))
	for i := range s {
		s[i] = bytes[c.below(len(bytes))]
	}
	return string(s)
}
