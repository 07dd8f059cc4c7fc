package whole_test

import (
	"fmt"
	"iter"
	"math"
	"math/big"
	"slices"
	"testing"

	"drachm/api"
	"drachm/whole"
)

const (
	most  = int64(api.MaxWhole)
	least = int64(math.MinInt64)

	below = int64(1048573) // the last prime up to 2^20
	above = int64(1048583) // the first prime beyond
	later = int64(1048589) // the second prime beyond
)

// edges are numbers at which something may go round, or change its side.
func edges() []int64 {
	out := []int64{
		least, -most, -most + 1, -most / 2, -most/2 - 1, most / 2, most/2 + 1, most - 1, most,
		1 << 62, -1 << 62, 1<<32 - 1, 1 << 32, 1<<32 + 1, 1 << 31, -1 << 31,
		3037000499, 3037000500, -3037000499, -3037000500,
		below * below, above * above, below * above, above * later, -above * later, 9223372036854775783,
		1<<20 - 1, 1 << 20, 1<<20 + 1, below, above,
	}
	for n := int64(-12); n <= 12; n++ {
		out = append(out, n)
	}
	return out
}

// fits says of a number of any size what the document says of whole ones.
func fits(n *big.Int) bool { return n.CmpAbs(big.NewInt(most)) <= 0 }

type part struct {
	divisor int64
	times   int
}

func gather(told iter.Seq2[int64, int]) []part {
	var out []part
	for p, k := range told {
		out = append(out, part{p, k})
	}
	return out
}

// P1.1

func TestFits(t *testing.T) {
	for _, n := range edges() {
		if got, want := whole.Fits(n), n != least; got != want {
			t.Errorf("Fits(%d): %v, want %v", n, got, want)
		}
	}
}

func TestSumsAndProducts(t *testing.T) {
	calls := []struct {
		name  string
		call  func(a, b int64) (int64, bool)
		exact func(a, b *big.Int) *big.Int
	}{
		{"Add", whole.Add, func(a, b *big.Int) *big.Int { return new(big.Int).Add(a, b) }},
		{"Mul", whole.Mul, func(a, b *big.Int) *big.Int { return new(big.Int).Mul(a, b) }},
	}
	for _, c := range calls {
		for _, a := range edges() {
			for _, b := range edges() {
				exact := c.exact(big.NewInt(a), big.NewInt(b))
				want, ok := int64(0), false
				if a != least && b != least && fits(exact) {
					want, ok = exact.Int64(), true
				}
				if got, told := c.call(a, b); got != want || told != ok {
					t.Errorf("%s(%d, %d): %d, %v, want %d, %v", c.name, a, b, got, told, want, ok)
				}
			}
		}
	}
}

func TestSumsAtTheEdge(t *testing.T) {
	rows := []struct {
		a, b, want int64
		ok         bool
	}{
		{most, -1, most - 1, true},
		{most, 0, most, true},
		{most, 1, 0, false},
		{most, most, 0, false},
		{most, -most, 0, true},
		{-most, 0, -most, true},
		{-most, 1, -most + 1, true},
		{-most, -1, 0, false}, // int64 has that number, but it is no whole one
		{-most, -2, 0, false},
		{least, 1, 0, false},
		{1, least, 0, false},
		{least, least, 0, false},
	}
	for _, r := range rows {
		if got, ok := whole.Add(r.a, r.b); got != r.want || ok != r.ok {
			t.Errorf("Add(%d, %d): %d, %v, want %d, %v", r.a, r.b, got, ok, r.want, r.ok)
		}
	}
}

func TestProductsAtTheEdge(t *testing.T) {
	rows := []struct {
		a, b, want int64
		ok         bool
	}{
		{1 << 62, 2, 0, false},
		{1 << 62, -2, 0, false}, // int64 has that number, but it is no whole one
		{-1 << 62, -2, 0, false},
		{1 << 32, 1 << 32, 0, false}, // goes round to 0
		{3037000499, 3037000499, 9223372030926249001, true},
		{3037000500, 3037000500, 0, false},
		{most, -1, -most, true},
		{-most, -1, most, true},
		{most, most, 0, false},
		{least, 0, 0, false},
		{0, least, 0, false},
		{least, -1, 0, false},
		{0, -most, 0, true},
		{-3, 4, -12, true},
	}
	for _, r := range rows {
		if got, ok := whole.Mul(r.a, r.b); got != r.want || ok != r.ok {
			t.Errorf("Mul(%d, %d): %d, %v, want %d, %v", r.a, r.b, got, ok, r.want, r.ok)
		}
	}
}

// P1.2

func TestGcd(t *testing.T) {
	for _, a := range edges() {
		for _, b := range edges() {
			want := int64(0)
			if a != least && b != least {
				x, y := new(big.Int).Abs(big.NewInt(a)), new(big.Int).Abs(big.NewInt(b))
				want = new(big.Int).GCD(nil, nil, x, y).Int64()
			}
			if got := whole.Gcd(a, b); got != want {
				t.Errorf("Gcd(%d, %d): %d, want %d", a, b, got, want)
			}
		}
	}
}

func TestGcdAtTheEdge(t *testing.T) {
	rows := []struct{ a, b, want int64 }{
		{-12, 18, 6}, {12, -18, 6}, {-12, -18, 6}, {18, 12, 6},
		{0, 0, 0}, {0, -5, 5}, {-5, 0, 5}, {7, 9, 1},
		{most, -most, most}, {-most, -most, most}, {0, -most, most},
		{least, 2, 0}, {2, least, 0}, {least, 0, 0}, {0, least, 0}, {least, least, 0},
	}
	for _, r := range rows {
		if got := whole.Gcd(r.a, r.b); got != r.want {
			t.Errorf("Gcd(%d, %d): %d, want %d", r.a, r.b, got, r.want)
		}
	}
}

func TestGcdIsTheGreatest(t *testing.T) {
	for a := int64(-40); a <= 40; a++ {
		for b := int64(-40); b <= 40; b++ {
			want := int64(0)
			for d := int64(1); d <= 40 && (a != 0 || b != 0); d++ {
				if a%d == 0 && b%d == 0 {
					want = d
				}
			}
			if got := whole.Gcd(a, b); got != want {
				t.Errorf("Gcd(%d, %d): %d, want %d", a, b, got, want)
			}
		}
	}
}

func TestSplit(t *testing.T) {
	rows := []struct {
		n, by int64
		times int
		left  int64
	}{
		{40, 2, 3, 5}, {-48, 2, 4, -3}, {7, 2, 0, 7}, {1, 2, 0, 1}, {-1, 2, 0, -1},
		{36, 6, 2, 1}, {-36, 6, 2, -1}, {48, 4, 2, 3}, {1000, 10, 3, 1}, // by need be no prime
		{1 << 62, 2, 62, 1}, {-1 << 62, 2, 62, -1},
		{most, 7, 2, most / 49}, {-most, 7, 2, -most / 49},
		{most, most, 1, 1}, {-most, most, 1, -1}, {5, most, 0, 5},
		{7, 1, 0, 7}, {7, 0, 0, 7}, {7, -1, 0, 7}, {14, -7, 0, 14}, {8, -2, 0, 8}, {-8, -2, 0, -8},
		{8, -most, 0, 8}, {8, least, 0, 8}, {most, 1, 0, most}, {-most, -1, 0, -most},
		{0, 2, 0, 0}, {0, 0, 0, 0}, {0, 1, 0, 0}, {0, least, 0, 0}, {0, most, 0, 0},
		{least, 2, 0, least}, {least, 1, 0, least}, {least, 0, 0, least}, {least, -1, 0, least}, {least, least, 0, least},
	}
	for _, r := range rows {
		if times, left := whole.Split(r.n, r.by); times != r.times || left != r.left {
			t.Errorf("Split(%d, %d): %d, %d, want %d, %d", r.n, r.by, times, left, r.times, r.left)
		}
	}
}

// P1.3

func TestParts(t *testing.T) {
	rows := []struct {
		n    int64
		want []part
	}{
		{360, []part{{2, 3}, {3, 2}, {5, 1}}},
		{-360, []part{{2, 3}, {3, 2}, {5, 1}}},
		{2, []part{{2, 1}}},
		{-2, []part{{2, 1}}},
		{4, []part{{2, 2}}},
		{6, []part{{2, 1}, {3, 1}}},
		{9, []part{{3, 2}}},
		{12, []part{{2, 2}, {3, 1}}},
		{97, []part{{97, 1}}},
		{-2 * 2 * 7 * 101 * 101, []part{{2, 2}, {7, 1}, {101, 2}}},
		{1 << 62, []part{{2, 62}}},
		{-1 << 62, []part{{2, 62}}},
		{most, []part{{7, 2}, {73, 1}, {127, 1}, {337, 1}, {92737, 1}, {649657, 1}}},
		{-most, []part{{7, 2}, {73, 1}, {127, 1}, {337, 1}, {92737, 1}, {649657, 1}}},
		{0, nil}, {1, nil}, {-1, nil}, {least, nil},
	}
	for _, r := range rows {
		if got := gather(whole.Parts(r.n)); !slices.Equal(got, r.want) {
			t.Errorf("Parts(%d): %v, want %v", r.n, got, r.want)
		}
	}
}

func TestPartsBehindTheLastTried(t *testing.T) {
	rows := []struct {
		n    int64
		want []part
	}{
		{1 << 20, []part{{2, 20}}},
		{below, []part{{below, 1}}},
		{above, []part{{above, 1}}},
		{below * below, []part{{below, 2}}},
		{below * below * below, []part{{below, 3}}},
		{below * above, []part{{below, 1}, {above, 1}}},
		{2 * below * above, []part{{2, 1}, {below, 1}, {above, 1}}},
		{above * above, []part{{above * above, 1}}},
		{above * above * above, []part{{above * above * above, 1}}},
		{above * later, []part{{above * later, 1}}},
		{-12 * above * later, []part{{2, 2}, {3, 1}, {above * later, 1}}},
		{below * above * later, []part{{below, 1}, {above * later, 1}}},
		{9223372036854775783, []part{{9223372036854775783, 1}}},
		{-9223372036854775783, []part{{9223372036854775783, 1}}},
	}
	for _, r := range rows {
		if got := gather(whole.Parts(r.n)); !slices.Equal(got, r.want) {
			t.Errorf("Parts(%d): %v, want %v", r.n, got, r.want)
		}
	}
}

func TestPartsArePrimeAndRise(t *testing.T) {
	for n := int64(-3000); n <= 3000; n++ {
		last := int64(1)
		for p, k := range whole.Parts(n) {
			if p <= last || !big.NewInt(p).ProbablyPrime(0) {
				t.Errorf("Parts(%d) tells %d behind %d", n, p, last)
			}
			if times, _ := whole.Split(n, p); times != k || k < 1 {
				t.Errorf("Parts(%d) tells %d, %d times; Split: %d", n, p, k, times)
			}
			last = p
		}
	}
}

// P1.4

func power(t *testing.T, by int64, times int) int64 {
	t.Helper()
	out, ok := int64(1), true
	for range times {
		if out, ok = whole.Mul(out, by); !ok {
			t.Fatalf("%d to the power of %d is too great", by, times)
		}
	}
	return out
}

func TestSplitIsPutTogether(t *testing.T) {
	for _, n := range edges() {
		for _, by := range edges() {
			times, left := whole.Split(n, by)
			if n == 0 || n == least || by < 2 {
				if times != 0 || left != n {
					t.Errorf("Split(%d, %d): %d, %d, want 0, %d", n, by, times, left, n)
				}
				continue
			}
			if again, ok := whole.Mul(power(t, by, times), left); !ok || again != n {
				t.Errorf("Split(%d, %d): %d, %d, which is %d", n, by, times, left, again)
			}
			if left%by == 0 {
				t.Errorf("Split(%d, %d): %d is left, which %d divides", n, by, left, by)
			}
		}
	}
}

func TestPartsArePutTogether(t *testing.T) {
	for _, n := range edges() {
		if n == 0 || n == least {
			continue
		}
		again := int64(1)
		for p, k := range whole.Parts(n) {
			product, ok := whole.Mul(again, power(t, p, k))
			if !ok {
				t.Fatalf("Parts(%d) are too great from %d on", n, p)
			}
			again = product
		}
		if again != n && again != -n {
			t.Errorf("Parts(%d) are %d in all", n, again)
		}
	}
}

// R1

func TestPartsAreNeverNil(t *testing.T) {
	for _, n := range []int64{0, 1, -1, least, 360} {
		if whole.Parts(n) == nil {
			t.Errorf("Parts(%d) is nil", n)
		}
	}
}

func TestPartsAreLeftOffAnywhere(t *testing.T) {
	for _, n := range []int64{360, -360, 97, most, 12 * above * later, above * above} {
		told := whole.Parts(n)
		all := gather(told)
		for stop := 1; stop <= len(all); stop++ {
			var got []part
			told(func(p int64, k int) bool {
				got = append(got, part{p, k})
				return len(got) != stop
			})
			if !slices.Equal(got, all[:stop]) {
				t.Errorf("Parts(%d), left off at %d: %v, want %v", n, stop, got, all[:stop])
			}
		}
		if again := gather(told); !slices.Equal(again, all) {
			t.Errorf("Parts(%d), gone over again: %v, want %v", n, again, all)
		}
	}
}

func TestPartsAreGoneOverInOneAnother(t *testing.T) {
	told := whole.Parts(360)
	said := ""
	for p := range told {
		for q := range told {
			said += fmt.Sprint(p, q, " ")
		}
	}
	if want := "2 2 2 3 2 5 3 2 3 3 3 5 5 2 5 3 5 5 "; said != want {
		t.Errorf("Parts(360) in itself: %q, want %q", said, want)
	}
}

// P1, R4

func TestSameCallsHaveTheSameAnswers(t *testing.T) {
	all := func() string {
		said := ""
		for _, a := range edges() {
			said += fmt.Sprint(whole.Fits(a), gather(whole.Parts(a)), "\n")
			for _, b := range edges() {
				sum, one := whole.Add(a, b)
				product, two := whole.Mul(a, b)
				times, left := whole.Split(a, b)
				said += fmt.Sprint(sum, one, product, two, whole.Gcd(a, b), times, left, "\n")
			}
		}
		return said
	}
	if all() != all() {
		t.Error("the same calls have other answers")
	}
}
