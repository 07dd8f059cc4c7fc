package frac_test

import (
	"math"
	"math/big"
	"strings"
	"testing"

	"drachm/api"
	"drachm/frac"
)

const (
	most  = int64(api.MaxWhole)
	least = int64(math.MinInt64)

	fives = int64(7450580596923828125) // 5 to the power of 27, the last one that is a whole number
	twos  = int64(1) << 62
	tens  = int64(1000000000000000000) // ten to the power of 18, likewise
)

// numbers are whole numbers, and the one int64 that is none, at which something may change.
func numbers() []int64 {
	out := []int64{
		least, -most, most, most - 1, -most + 1, twos, -twos, fives, -fives, tens, -tens, 9 * tens,
		1 << 27, 1 << 28, 1 << 40, 95367431640625, 1 << 31, 1 << 32, 3037000499, 3037000500,
		4052555153018976267 /* 3 to the 39 */, 649657, 92737,
		99, 100, 120, 254, 1000, -120,
	}
	for n := int64(-15); n <= 16; n++ {
		out = append(out, n)
	}
	return out
}

// powersOfTen are those at which the limit is met or passed, also by twos and fives of what stands beside.
func powersOfTen() []int {
	out := []int{math.MinInt, math.MinInt + 1, -1 << 31, -5000, 5000, 1 << 31, math.MaxInt - 1, math.MaxInt}
	for _, n := range []int{0, 1, 3, 18, 26, 27, 28, 61, 62, 63, 972, 973, 982, 999, 1000, 1001, 1018, 1019, 1027, 1028, 1062, 1063, 2000, 2001} {
		out = append(out, n, -n)
	}
	return out
}

// formed is the form of a number of any size, times ten to the power of ten, straight from the document's words; false, if it is not right.
func formed(r *big.Rat, ten *big.Int) (api.Frac, bool) {
	if r.Sign() == 0 {
		return api.Frac{Den: 1}, true
	}
	n, d, ten := new(big.Int).Set(r.Num()), new(big.Int).Set(r.Denom()), new(big.Int).Set(ten)
	// without takes the divisor out of a number as often as it is there, puts another one into n each time, and counts it as tens.
	without := func(number *big.Int, divisor, instead, count int64) {
		for new(big.Int).Rem(number, big.NewInt(divisor)).Sign() == 0 {
			number.Quo(number, big.NewInt(divisor))
			n.Mul(n, big.NewInt(instead))
			ten.Add(ten, big.NewInt(count))
		}
	}
	without(d, 2, 5, -1)
	without(d, 5, 2, -1)
	without(n, 10, 1, 1)
	limit, power := big.NewInt(most), big.NewInt(1000)
	if n.CmpAbs(limit) > 0 || d.Cmp(limit) > 0 || ten.CmpAbs(power) > 0 {
		return api.Frac{}, false
	}
	return api.Frac{Num: n.Int64(), Den: d.Int64(), Ten: int(ten.Int64())}, true
}

// told is the answer that the document asks for, where there is no other error.
func told(r *big.Rat, ten int64) (api.Frac, api.Errno) {
	if f, ok := formed(r, big.NewInt(ten)); ok {
		return f, api.OK
	}
	return api.Frac{}, api.ErrOver
}

func rat(a api.Frac) *big.Rat { return big.NewRat(a.Num, a.Den) }

// rightOnes are right fracs, ordinary ones and those at the limits.
func rightOnes(t *testing.T) []api.Frac {
	out := []api.Frac{
		{Num: 0, Den: 1},
		{Num: 1, Den: 1}, {Num: -1, Den: 1}, {Num: 2, Den: 1}, {Num: -2, Den: 1}, {Num: 5, Den: 1}, {Num: 3, Den: 1}, {Num: 7, Den: 1}, {Num: 15, Den: 1}, {Num: -6, Den: 1},
		{Num: 1, Den: 3}, {Num: -1, Den: 3}, {Num: 2, Den: 3}, {Num: -4, Den: 3, Ten: 2}, {Num: -22, Den: 7, Ten: -3}, {Num: 9, Den: 7}, {Num: 375, Den: 1, Ten: -3}, {Num: 25, Den: 9, Ten: -1},
		{Num: 1, Den: 1, Ten: 1}, {Num: 1, Den: 1, Ten: -1}, {Num: 1, Den: 1, Ten: 10}, {Num: 1, Den: 1, Ten: 11}, {Num: 2, Den: 1, Ten: -10},
		{Num: 1, Den: 1, Ten: 999}, {Num: 1, Den: 1, Ten: 1000}, {Num: 1, Den: 1, Ten: -999}, {Num: 1, Den: 1, Ten: -1000},
		{Num: 2, Den: 1, Ten: 999}, {Num: 5, Den: 1, Ten: 999}, {Num: 5, Den: 1, Ten: 1000}, {Num: -5, Den: 3, Ten: -1000}, {Num: 2, Den: 1, Ten: -1000},
		{Num: most, Den: 1}, {Num: -most, Den: 1}, {Num: 1, Den: most}, {Num: -1, Den: most}, {Num: most, Den: most - 4, Ten: 1000}, {Num: -most, Den: most - 4, Ten: -1000}, {Num: most - 1, Den: most},
		{Num: twos, Den: 1}, {Num: twos, Den: 3, Ten: -7}, {Num: fives, Den: 1}, {Num: -fives, Den: 7, Ten: 9}, {Num: 1 << 40, Den: 3}, {Num: 95367431640625, Den: 7},
		{Num: 3037000499, Den: 1}, {Num: 3037000501, Den: 1}, {Num: 1, Den: 3037000499}, {Num: 1, Den: 3037000501}, {Num: 649657, Den: 92737}, {Num: 92737, Den: 649657}, {Num: 4052555153018976267, Den: 7},
	}
	for _, a := range out {
		if want, ok := formed(rat(a), big.NewInt(int64(a.Ten))); !ok || want != a {
			t.Fatalf("%v is no right frac, and of no use here", a)
		}
	}
	return out
}

// wrongOnes are fracs that are not right, each for a reason of its own.
func wrongOnes() []api.Frac {
	return []api.Frac{
		{}, {Num: 0, Den: 1, Ten: 1}, {Num: 0, Den: 1, Ten: -1}, {Num: 0, Den: 3}, {Num: 0, Den: -1}, {Num: 0, Den: least}, {Num: 0, Den: 1, Ten: math.MaxInt},
		{Num: 1}, {Num: 1, Den: -1}, {Num: -1, Den: -3}, {Num: 1, Den: -most}, {Num: 1, Den: least}, {Num: least, Den: least},
		{Num: 3, Den: 2}, {Num: 3, Den: 5}, {Num: 3, Den: 10}, {Num: 3, Den: 14}, {Num: 3, Den: 35}, {Num: 1, Den: twos}, {Num: 1, Den: fives},
		{Num: 10, Den: 1}, {Num: -10, Den: 3}, {Num: tens, Den: 1}, {Num: 20, Den: 7, Ten: 4},
		{Num: 3, Den: 3}, {Num: 6, Den: 9}, {Num: -21, Den: 7}, {Num: most, Den: most}, {Num: -most, Den: 7},
		{Num: least, Den: 1}, {Num: least, Den: 3}, {Num: 1, Den: 1, Ten: 1001}, {Num: 1, Den: 1, Ten: -1001},
		{Num: 1, Den: 1, Ten: math.MaxInt}, {Num: 1, Den: 1, Ten: math.MinInt}, {Num: 5, Den: 3, Ten: 2000}, {Num: 5, Den: 3, Ten: -2000},
	}
}

type answer struct {
	frac api.Frac
	err  api.Errno
}

func check(t *testing.T, what string, a, b any, got, want answer) {
	t.Helper()
	if got != want {
		t.Errorf("%s of %v and %v: %v, want %v", what, a, b, got, want)
	}
}

// P2.1

func TestRight(t *testing.T) {
	for _, a := range rightOnes(t) {
		if !frac.Right(a) {
			t.Errorf("Right(%v): false", a)
		}
	}
	for _, a := range wrongOnes() {
		if frac.Right(a) {
			t.Errorf("Right(%v): true", a)
		}
	}
}

// Of the fracs around 0 just those are right that the words of the document make so.
func TestRightByItsWords(t *testing.T) {
	common := func(n, d int64) bool {
		for k := int64(2); k <= d; k++ {
			if n%k == 0 && d%k == 0 {
				return true
			}
		}
		return false
	}
	for num := int64(-130); num <= 130; num++ {
		for den := int64(-40); den <= 40; den++ {
			for _, ten := range powersOfTen() {
				want := den >= 1 && den%2 != 0 && den%5 != 0 && num%10 != 0 && !common(num, den) && ten >= -1000 && ten <= 1000
				if num == 0 {
					want = den == 1 && ten == 0
				}
				if got := frac.Right(api.Frac{Num: num, Den: den, Ten: ten}); got != want {
					t.Fatalf("Right(%d, %d, %d): %v, want %v", num, den, ten, got, want)
				}
			}
		}
	}
}

func TestMakeByTable(t *testing.T) {
	for _, c := range []struct {
		num, den int64
		ten      int
		want     answer
	}{
		{3, 8, 0, answer{api.Frac{Num: 375, Den: 1, Ten: -3}, api.OK}},
		{120, -9, 1, answer{api.Frac{Num: -4, Den: 3, Ten: 2}, api.OK}},
		{-7, -21, 0, answer{api.Frac{Num: 1, Den: 3}, api.OK}},
		{254, 100, -2, answer{api.Frac{Num: 254, Den: 1, Ten: -4}, api.OK}},
		{most, -most, 0, answer{api.Frac{Num: -1, Den: 1}, api.OK}},
		{-most, 1, 1000, answer{api.Frac{Num: -most, Den: 1, Ten: 1000}, api.OK}},
		{1, most, -1000, answer{api.Frac{Num: 1, Den: most, Ten: -1000}, api.OK}},

		{0, 1, 0, answer{api.Frac{Den: 1}, api.OK}},
		{0, -most, 1001, answer{api.Frac{Den: 1}, api.OK}},
		{0, 10, math.MaxInt, answer{api.Frac{Den: 1}, api.OK}},
		{0, 10, math.MinInt, answer{api.Frac{Den: 1}, api.OK}},

		{least, 1, 0, answer{err: api.ErrArg}},
		{1, least, 0, answer{err: api.ErrArg}},
		{least, 0, 0, answer{err: api.ErrArg}},
		{0, least, 5000, answer{err: api.ErrArg}},
		{1, 0, 0, answer{err: api.ErrZero}},
		{0, 0, 0, answer{err: api.ErrZero}},
		{1, 0, 5000, answer{err: api.ErrZero}},

		{1, 1, 1000, answer{api.Frac{Num: 1, Den: 1, Ten: 1000}, api.OK}},
		{1, 1, 1001, answer{err: api.ErrOver}},
		{1, 1, -1000, answer{api.Frac{Num: 1, Den: 1, Ten: -1000}, api.OK}},
		{1, 1, -1001, answer{err: api.ErrOver}},
		{1, tens, 1018, answer{api.Frac{Num: 1, Den: 1, Ten: 1000}, api.OK}},
		{1, tens, 1019, answer{err: api.ErrOver}},
		{tens, 1, -1018, answer{api.Frac{Num: 1, Den: 1, Ten: -1000}, api.OK}},
		{tens, 1, -1019, answer{err: api.ErrOver}},
		{100, 1, 998, answer{api.Frac{Num: 1, Den: 1, Ten: 1000}, api.OK}},
		{100, 1, 999, answer{err: api.ErrOver}},
		{1, 8, -997, answer{api.Frac{Num: 125, Den: 1, Ten: -1000}, api.OK}},
		{1, 8, -998, answer{err: api.ErrOver}},
		{1, fives, 1027, answer{api.Frac{Num: 1 << 27, Den: 1, Ten: 1000}, api.OK}},
		{1, fives, 1028, answer{err: api.ErrOver}},
		{1, 1 << 27, 0, answer{api.Frac{Num: fives, Den: 1, Ten: -27}, api.OK}},
		{1, 1 << 28, 0, answer{err: api.ErrOver}},
		{twos, fives, 0, answer{err: api.ErrOver}},
		{fives, twos, 0, answer{err: api.ErrOver}},
		{1, 1, math.MaxInt, answer{err: api.ErrOver}},
		{1, 1, math.MinInt, answer{err: api.ErrOver}},
		{1, 2, math.MinInt, answer{err: api.ErrOver}},
		{10, 1, math.MaxInt, answer{err: api.ErrOver}},
	} {
		f, e := frac.Make(c.num, c.den, c.ten)
		check(t, "Make", [2]int64{c.num, c.den}, c.ten, answer{f, e}, c.want)
	}
}

func TestMakeByWords(t *testing.T) {
	for _, num := range numbers() {
		for _, den := range numbers() {
			for _, ten := range powersOfTen() {
				var want answer
				switch {
				case num == least || den == least:
					want.err = api.ErrArg
				case den == 0:
					want.err = api.ErrZero
				default:
					want.frac, want.err = told(big.NewRat(num, den), int64(ten))
				}
				f, e := frac.Make(num, den, ten)
				check(t, "Make", [2]int64{num, den}, ten, answer{f, e}, want)
				if e == api.OK && !frac.Right(f) {
					t.Errorf("Make(%d, %d, %d) is not right: %v", num, den, ten, f)
				}
			}
		}
	}
}

// P2.2

func TestProductsAndQuotients(t *testing.T) {
	for _, a := range rightOnes(t) {
		for _, b := range rightOnes(t) {
			var want answer
			want.frac, want.err = told(new(big.Rat).Mul(rat(a), rat(b)), int64(a.Ten)+int64(b.Ten))
			f, e := frac.Mul(a, b)
			check(t, "Mul", a, b, answer{f, e}, want)

			want = answer{err: api.ErrZero}
			if b.Num != 0 {
				want.frac, want.err = told(new(big.Rat).Quo(rat(a), rat(b)), int64(a.Ten)-int64(b.Ten))
			}
			f, e = frac.Div(a, b)
			check(t, "Div", a, b, answer{f, e}, want)
		}
	}
}

func TestProductsAndQuotientsByTable(t *testing.T) {
	one, zero := api.Frac{Num: 1, Den: 1}, api.Frac{Den: 1}
	great, small := api.Frac{Num: 1, Den: 1, Ten: 1000}, api.Frac{Num: 1, Den: 1, Ten: -1000}
	for _, c := range []struct {
		name string
		call func(a, b api.Frac) (api.Frac, api.Errno)
		a, b api.Frac
		want answer
	}{
		{"Mul", frac.Mul, api.Frac{Num: 2, Den: 3}, api.Frac{Num: 15, Den: 1}, answer{api.Frac{Num: 1, Den: 1, Ten: 1}, api.OK}},
		{"Mul", frac.Mul, api.Frac{Num: most, Den: 1}, api.Frac{Num: -1, Den: most}, answer{api.Frac{Num: -1, Den: 1}, api.OK}},
		{"Mul", frac.Mul, api.Frac{Num: twos, Den: 1}, api.Frac{Num: fives, Den: 1}, answer{api.Frac{Num: 1 << 35, Den: 1, Ten: 27}, api.OK}},
		{"Mul", frac.Mul, api.Frac{Num: most, Den: 1}, api.Frac{Num: 2, Den: 1}, answer{err: api.ErrOver}},
		{"Mul", frac.Mul, api.Frac{Num: 1, Den: most}, api.Frac{Num: 1, Den: 3}, answer{err: api.ErrOver}},
		{"Mul", frac.Mul, great, small, answer{one, api.OK}},
		{"Mul", frac.Mul, great, api.Frac{Num: 1, Den: 1, Ten: 1}, answer{err: api.ErrOver}},
		{"Mul", frac.Mul, small, api.Frac{Num: 1, Den: 1, Ten: -1}, answer{err: api.ErrOver}},
		{"Mul", frac.Mul, zero, great, answer{zero, api.OK}},
		{"Mul", frac.Mul, api.Frac{Num: most, Den: 3, Ten: 7}, zero, answer{zero, api.OK}},
		{"Mul", frac.Mul, zero, zero, answer{zero, api.OK}},

		{"Div", frac.Div, api.Frac{Num: 2, Den: 3}, api.Frac{Num: -4, Den: 3}, answer{api.Frac{Num: -5, Den: 1, Ten: -1}, api.OK}},
		{"Div", frac.Div, api.Frac{Num: most, Den: 1}, api.Frac{Num: most, Den: 1}, answer{one, api.OK}},
		{"Div", frac.Div, api.Frac{Num: 1, Den: most}, api.Frac{Num: -1, Den: most}, answer{api.Frac{Num: -1, Den: 1}, api.OK}},
		{"Div", frac.Div, great, great, answer{one, api.OK}},
		{"Div", frac.Div, small, api.Frac{Num: 1, Den: 1, Ten: 1}, answer{err: api.ErrOver}},
		{"Div", frac.Div, small, api.Frac{Num: 2, Den: 1}, answer{err: api.ErrOver}},
		{"Div", frac.Div, one, api.Frac{Num: twos, Den: 1}, answer{err: api.ErrOver}},
		{"Div", frac.Div, zero, great, answer{zero, api.OK}},
		{"Div", frac.Div, one, zero, answer{err: api.ErrZero}},
		{"Div", frac.Div, zero, zero, answer{err: api.ErrZero}},
	} {
		f, e := c.call(c.a, c.b)
		check(t, c.name, c.a, c.b, answer{f, e}, c.want)
	}
}

func TestWrongFracsAreNotReckoned(t *testing.T) {
	others := append(wrongOnes(), api.Frac{Den: 1}, api.Frac{Num: 1, Den: 1}, api.Frac{Num: most, Den: 1, Ten: 1000})
	want := answer{err: api.ErrArg}
	for _, a := range wrongOnes() {
		for _, b := range others {
			f, e := frac.Mul(a, b)
			check(t, "Mul", a, b, answer{f, e}, want)
			f, e = frac.Mul(b, a)
			check(t, "Mul", b, a, answer{f, e}, want)
			f, e = frac.Div(a, b)
			check(t, "Div", a, b, answer{f, e}, want)
			f, e = frac.Div(b, a)
			check(t, "Div", b, a, answer{f, e}, want)
		}
		for _, n := range []int{math.MinInt, -100, -99, -1, 0, 1, 2, 99, 100, math.MaxInt} {
			f, e := frac.Pow(a, n)
			check(t, "Pow", a, n, answer{f, e}, want)
		}
	}
}

func TestPowers(t *testing.T) {
	for _, a := range rightOnes(t) {
		for n := -102; n <= 102; n++ {
			f, e := frac.Pow(a, n)
			check(t, "Pow", a, n, answer{f, e}, powered(a, n))
		}
		for _, n := range []int{math.MinInt, math.MinInt + 1, -1 << 32, 1 << 32, math.MaxInt} {
			f, e := frac.Pow(a, n)
			check(t, "Pow", a, n, answer{f, e}, answer{err: api.ErrArg})
		}
	}
}

// powered is what Pow must tell of a right frac.
func powered(a api.Frac, n int) answer {
	if n < -99 || n > 99 {
		return answer{err: api.ErrArg}
	}
	r := big.NewRat(1, 1)
	for range max(n, -n) {
		r.Mul(r, rat(a))
	}
	if n < 0 && a.Num == 0 {
		return answer{err: api.ErrZero}
	}
	if n < 0 {
		r.Inv(r)
	}
	f, e := told(r, int64(a.Ten)*int64(n))
	return answer{f, e}
}

func TestPowersByTable(t *testing.T) {
	zero, one := api.Frac{Den: 1}, api.Frac{Num: 1, Den: 1}
	for _, c := range []struct {
		a    api.Frac
		n    int
		want answer
	}{
		{api.Frac{Num: 2, Den: 3}, -3, answer{api.Frac{Num: 3375, Den: 1, Ten: -3}, api.OK}},
		{api.Frac{Num: -2, Den: 3}, 3, answer{api.Frac{Num: -8, Den: 27}, api.OK}},
		{api.Frac{Num: -3, Den: 1}, -2, answer{api.Frac{Num: 1, Den: 9}, api.OK}},
		{api.Frac{Num: 2, Den: 1}, 62, answer{api.Frac{Num: twos, Den: 1}, api.OK}},
		{api.Frac{Num: 2, Den: 1}, 63, answer{err: api.ErrOver}},
		{api.Frac{Num: 2, Den: 1}, -27, answer{api.Frac{Num: fives, Den: 1, Ten: -27}, api.OK}},
		{api.Frac{Num: 2, Den: 1}, -28, answer{err: api.ErrOver}},
		{api.Frac{Num: 7, Den: 1}, 23, answer{err: api.ErrOver}},
		{api.Frac{Num: 7, Den: 1}, -23, answer{err: api.ErrOver}},
		{api.Frac{Num: 1, Den: 1, Ten: 10}, 99, answer{api.Frac{Num: 1, Den: 1, Ten: 990}, api.OK}},
		{api.Frac{Num: 1, Den: 1, Ten: 10}, -99, answer{api.Frac{Num: 1, Den: 1, Ten: -990}, api.OK}},
		{api.Frac{Num: 1, Den: 1, Ten: 11}, 99, answer{err: api.ErrOver}},
		{api.Frac{Num: 1, Den: 1, Ten: 500}, 2, answer{api.Frac{Num: 1, Den: 1, Ten: 1000}, api.OK}},
		{api.Frac{Num: -1, Den: 1}, 99, answer{api.Frac{Num: -1, Den: 1}, api.OK}},
		{api.Frac{Num: -1, Den: 1}, -98, answer{one, api.OK}},
		{one, 100, answer{err: api.ErrArg}},
		{one, -100, answer{err: api.ErrArg}},
		{zero, 0, answer{one, api.OK}},
		{api.Frac{Num: most, Den: 3, Ten: 1000}, 0, answer{one, api.OK}},
		{zero, 1, answer{zero, api.OK}},
		{zero, 99, answer{zero, api.OK}},
		{zero, -1, answer{err: api.ErrZero}},
		{zero, -99, answer{err: api.ErrZero}},
		{zero, -100, answer{err: api.ErrArg}},
		{zero, 100, answer{err: api.ErrArg}},
	} {
		f, e := frac.Pow(c.a, c.n)
		check(t, "Pow", c.a, c.n, answer{f, e}, c.want)
	}
}

// P2.3

func TestTexts(t *testing.T) {
	for _, c := range []struct {
		a    api.Frac
		want string
	}{
		{api.Frac{Den: 1}, "0"},
		{api.Frac{Num: 1, Den: 1}, "1"},
		{api.Frac{Num: -1, Den: 1}, "-1"},
		{api.Frac{Num: 375, Den: 1, Ten: -3}, "375e-3"},
		{api.Frac{Num: -4, Den: 3, Ten: 2}, "-4/3e2"},
		{api.Frac{Num: 1, Den: 3}, "1/3"},
		{api.Frac{Num: -22, Den: 7, Ten: -3}, "-22/7e-3"},
		{api.Frac{Num: -most, Den: most - 4, Ten: -1000}, "-9223372036854775807/9223372036854775803e-1000"},
		{api.Frac{Num: most, Den: 1, Ten: 1000}, "9223372036854775807e1000"},
	} {
		if got := frac.Text(c.a); got != c.want {
			t.Errorf("Text(%v): %q, want %q", c.a, got, c.want)
		}
		f, e := frac.Read(c.want)
		check(t, "Read", c.want, "", answer{f, e}, answer{c.a, api.OK})
	}
	for _, a := range wrongOnes() {
		if got := frac.Text(a); got != "" {
			t.Errorf("Text(%v): %q, want nothing", a, got)
		}
	}
}

func TestWhatIsTextIsReadBack(t *testing.T) {
	seen := map[string]api.Frac{}
	for _, a := range rightOnes(t) {
		s := frac.Text(a)
		if other, was := seen[s]; was {
			t.Errorf("%v and %v are one text, %q", a, other, s)
		}
		seen[s] = a
		f, e := frac.Read(s)
		check(t, "Read", s, "", answer{f, e}, answer{a, api.OK})
	}
}

func TestWhatIsNoTextIsNotRead(t *testing.T) {
	wrong := []string{
		"", " ", "-", "+", "/", "e", "/e", "-/-e-", "x", "one", "1x", "x1", "0x1", "1_0", "1.5", "1,5", "\x00", "1\x00", "\xff", "1\n", "é",
		"+1", "--1", "-+1", "- 1", " 1", "1 ", "1e 2", "1e+2", "1/+3", "1/-3", "1/ 3",
		"-0", "00", "0/3", "0/1", "0e1", "0e0", "0e-1", "01", "-01", "1/03", "1e02", "1e-02", "1e-0",
		"1/1", "1e0", "1/3e0", "1/1e1", "1/0", "0/0",
		"10", "-10", "100e-2", "2/4", "3/9", "1/2", "1/5", "3/10", "7/7", "6/3",
		"1e", "1/", "/3", "1/3e", "1/e3", "e3", "1e3e3", "1/3/3", "1e3/3", "1E3", "1e3 ", "1e1.0", "1ee1", "1//3", "1e--1",
		"1e1001", "1e-1001", "1e99999999999999999999", "1e-99999999999999999999", "1e9223372036854775807", "1e-9223372036854775808", "0e9223372036854775807",
		"9223372036854775808", "-9223372036854775808", "1/9223372036854775809", "99999999999999999999", "-99999999999999999999", "1/99999999999999999999",
		"18446744073709551617", "1/18446744073709551617", "1e18446744073709551617",
		strings.Repeat("0", 1<<20), strings.Repeat("0", 1<<20) + "1", strings.Repeat("1", 1<<20), strings.Repeat("e", 1<<20), strings.Repeat("/", 1<<20), "1/" + strings.Repeat("3", 1<<20), "1e" + strings.Repeat("1", 1<<20),
	}
	for _, s := range wrong {
		f, e := frac.Read(s)
		if (answer{f, e}) != (answer{err: api.ErrForm}) {
			t.Errorf("Read(%.40q): %v, %v, want ErrForm", s, f, e)
		}
	}
}

// Of all short texts just those are read that are the Text of what is told.
func TestShortTexts(t *testing.T) {
	texts := map[string]bool{}
	for num := int64(-999); num <= 9999; num++ {
		for k := -9; k <= 99; k++ { // a power of ten, or a divisor: there is no room for both
			texts[frac.Text(api.Frac{Num: num, Den: 1, Ten: k})] = true
			texts[frac.Text(api.Frac{Num: num, Den: int64(k)})] = true
		}
	}
	delete(texts, "")
	var look func(s string)
	look = func(s string) {
		f, e := frac.Read(s)
		if texts[s] && (e != api.OK || frac.Text(f) != s) || !texts[s] && (answer{f, e}) != (answer{err: api.ErrForm}) {
			t.Errorf("Read(%q): %v, %v", s, f, e)
		}
		if len(s) == 4 {
			return
		}
		for _, c := range "0123456789-+/eE ." {
			look(s + string(c))
		}
	}
	look("")
}

// P2.4

func TestWhatFollows(t *testing.T) {
	for _, a := range rightOnes(t) {
		for _, b := range rightOnes(t) {
			if b.Num == 0 {
				continue
			}
			if product, e := frac.Mul(a, b); e == api.OK {
				f, e := frac.Div(product, b)
				check(t, "Mul, then Div", a, b, answer{f, e}, answer{a, api.OK})
			}
			if quotient, e := frac.Div(a, b); e == api.OK {
				f, e := frac.Mul(quotient, b)
				check(t, "Div, then Mul", a, b, answer{f, e}, answer{a, api.OK})
			}
		}
	}
}

func TestAPowerIsAProduct(t *testing.T) {
	one := api.Frac{Num: 1, Den: 1}
	for _, a := range rightOnes(t) {
		product, e := one, api.OK
		for n := 0; n <= 99; n++ {
			f, got := frac.Pow(a, n)
			check(t, "Pow", a, n, answer{f, got}, answer{product, e})
			if turned, over := frac.Div(one, product); e == api.OK && a.Num != 0 {
				f, got := frac.Pow(a, -n)
				check(t, "Pow", a, -n, answer{f, got}, answer{turned, over})
			}
			if product, e = frac.Mul(product, a); e != api.OK {
				break
			}
		}
	}
}

// P1, R2 and R4

func TestAnyCallTellsTheSameAgain(t *testing.T) {
	all := append(wrongOnes(), rightOnes(t)...)
	tell := func() []answer {
		var out []answer
		put := func(f api.Frac, e api.Errno) {
			if e != api.OK && f != (api.Frac{}) {
				t.Errorf("beside error %v: %v", e, f)
			}
			out = append(out, answer{f, e})
		}
		for _, a := range all {
			for _, b := range all {
				put(frac.Mul(a, b))
				put(frac.Div(a, b))
			}
			put(frac.Make(a.Num, a.Den, a.Ten))
			put(frac.Pow(a, a.Ten))
			put(frac.Pow(a, int(a.Num)))
			put(frac.Read(frac.Text(a)))
		}
		return out
	}
	first, second := tell(), tell()
	for i := range first {
		if first[i] != second[i] {
			t.Fatalf("call %d: %v, then %v", i, first[i], second[i])
		}
	}
}
