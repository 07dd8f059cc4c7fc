package worth_test

import (
	"fmt"
	"math"
	"math/big"
	"slices"
	"strconv"
	"strings"
	"testing"

	"drachm/api"
	"drachm/dims"
	"drachm/frac"
	"drachm/worth"
)

const (
	most  = int64(api.MaxWhole)
	least = int64(math.MinInt64)
	limit = 99
)

// answer is what Of, Mul, Div and Pow tell.
type answer struct {
	worth api.Worth
	err   api.Errno
}

func told(a api.Worth, err api.Errno) answer { return answer{a, err} }

func fault(err api.Errno) answer { return answer{err: err} }

func check(t *testing.T, got, want answer, what string, args ...any) {
	t.Helper()
	if got != want {
		t.Fatalf("%s: %v, want %v", fmt.Sprintf(what, args...), got, want)
	}
}

// plain is a worth that is no special one.
func plain(num, den int64, ten int, powers ...int) api.Worth {
	a := api.Worth{Frac: api.Frac{Num: num, Den: den, Ten: ten}}
	copy(a.Dims[:], powers)
	return a
}

func tagged(a api.Worth, tag int) api.Worth {
	a.Tag = tag
	return a
}

// at are dims with one power, at that place.
func at(place, power int) api.Dims {
	var a api.Dims
	a[place] = power
	return a
}

// all are dims with the same power at each place.
func all(power int) api.Dims {
	var a api.Dims
	for place := range a {
		a[place] = power
	}
	return a
}

func rightFracs() []api.Frac {
	return []api.Frac{
		{Num: 0, Den: 1}, {Num: 1, Den: 1}, {Num: -1, Den: 1}, {Num: 2, Den: 1}, {Num: 25, Den: 9, Ten: -1}, {Num: -4, Den: 3, Ten: 2},
		{Num: 1, Den: 1, Ten: 1000}, {Num: 1, Den: 1, Ten: -1000}, {Num: most, Den: 1}, {Num: -most, Den: 1}, {Num: 1, Den: most}, {Num: most, Den: most - 4, Ten: 10},
	}
}

// wrongFracs are not right, each for a reason of its own.
func wrongFracs() []api.Frac {
	return []api.Frac{
		{}, {Num: 1}, {Num: 1, Den: -1}, {Num: 10, Den: 1}, {Num: 3, Den: 2}, {Num: 3, Den: 5}, {Num: 6, Den: 9}, {Num: 0, Den: 1, Ten: 1},
		{Num: 1, Den: 1, Ten: 1001}, {Num: 1, Den: 1, Ten: -1001}, {Num: least, Den: 1}, {Num: 1, Den: least}, {Num: least, Den: least, Ten: math.MinInt},
	}
}

func rightDims() []api.Dims {
	return []api.Dims{
		{}, {1, -2}, at(6, 1), {1, 2, 3, -4, 5, -6, 7}, {60}, at(0, limit), at(0, -limit), at(3, limit), at(6, -limit), all(1), all(limit), all(-limit),
	}
}

// wrongDims are not right, by a power at each of the places.
func wrongDims() []api.Dims {
	var out []api.Dims
	for _, power := range []int{limit + 1, -limit - 1, math.MaxInt, math.MinInt} {
		out = append(out, all(power))
		for place := range 7 {
			out = append(out, at(place, power))
		}
	}
	return out
}

func rightTags() []int { return []int{0, 1, 9, 10, 50, 98, 99} }

func wrongTags() []int { return []int{-1, 100, -99, 1000, 1 << 32, math.MaxInt, math.MinInt} }

// put are all worths of these parts.
func put(fracs []api.Frac, powers []api.Dims, tags []int) []api.Worth {
	var out []api.Worth
	for _, f := range fracs {
		for _, d := range powers {
			for _, tag := range tags {
				out = append(out, api.Worth{Frac: f, Dims: d, Tag: tag})
			}
		}
	}
	return out
}

// plainOnes are right worths that are plain.
func plainOnes() []api.Worth { return put(rightFracs(), rightDims(), []int{0}) }

// specialOnes are right worths that are not plain.
func specialOnes() []api.Worth {
	return put([]api.Frac{{Num: 0, Den: 1}, {Num: 1, Den: 1}, {Num: most, Den: 1, Ten: 1000}}, []api.Dims{{}, {1, -2}, all(limit)}, rightTags()[1:])
}

// wrongOnes are worths that are not right, by one part alone, and by several.
func wrongOnes() []api.Worth {
	fewFracs, fewDims := []api.Frac{{Num: 0, Den: 1}, {Num: 1, Den: 1}, {Num: most, Den: 1, Ten: 1000}}, []api.Dims{{}, all(limit)}
	return slices.Concat(
		put(wrongFracs(), fewDims, []int{0, 1, 99}),
		put(fewFracs, wrongDims(), []int{0, 1, 99}),
		put(fewFracs, fewDims, wrongTags()),
		put(wrongFracs(), wrongDims()[:3], wrongTags()[:2]),
	)
}

// numbers are powers, within the limits and beyond them.
func numbers() []int {
	return []int{0, 1, -1, 2, -2, 3, 10, 50, 98, -98, limit, -limit, limit + 1, -limit - 1, 1 << 32, 1<<32 + 1, math.MaxInt, math.MinInt}
}

// P4.1: Right, of all parts that are right, and of those of which one is not.
func TestRight(t *testing.T) {
	for _, a := range put(rightFracs(), rightDims(), rightTags()) {
		if !worth.Right(a) {
			t.Errorf("Right(%v) is false", a)
		}
	}
	for _, a := range wrongOnes() {
		if worth.Right(a) {
			t.Errorf("Right(%v) is true", a)
		}
	}
	if worth.Right(api.Worth{}) {
		t.Error("the zero worth has no number, and is right")
	}
}

// P4.1: each tag around those that may be.
func TestTags(t *testing.T) {
	for tag := -300; tag <= 300; tag++ {
		a := tagged(plain(1, 3, 0, 1, -1), tag)
		if got, want := worth.Right(a), tag >= 0 && tag <= 99; got != want {
			t.Errorf("Right of the tag %d: %v", tag, got)
		}
	}
}

// P4.1: worths of whole numbers, and of the least int64, which is none.
func TestOfByHand(t *testing.T) {
	for _, c := range []struct {
		n    int64
		want answer
	}{
		{0, answer{worth: plain(0, 1, 0)}},
		{1, answer{worth: plain(1, 1, 0)}},
		{-1, answer{worth: plain(-1, 1, 0)}},
		{10, answer{worth: plain(1, 1, 1)}},
		{2500, answer{worth: plain(25, 1, 2)}},
		{-120, answer{worth: plain(-12, 1, 1)}},
		{1000000000000000000, answer{worth: plain(1, 1, 18)}},
		{most, answer{worth: plain(most, 1, 0)}},
		{-most, answer{worth: plain(-most, 1, 0)}},
		{most - 7, answer{worth: plain(92233720368547758, 1, 2)}},
		{least, fault(api.ErrArg)},
		{least + 1, answer{worth: plain(-most, 1, 0)}},
	} {
		check(t, told(worth.Of(c.n)), c.want, "Of(%d)", c.n)
	}
}

// P4.1: the worth of a whole number is the number again, is plain, and has no dims.
func TestOfIsTheNumber(t *testing.T) {
	ask := func(n int64) {
		t.Helper()
		a, err := worth.Of(n)
		if err != api.OK || !worth.Right(a) || a.Frac.Den != 1 || a.Dims != (api.Dims{}) || a.Tag != 0 || a.Frac.Ten < 0 {
			t.Fatalf("Of(%d): %v %v", n, a, err)
		}
		back := new(big.Int).Exp(big.NewInt(10), big.NewInt(int64(a.Frac.Ten)), nil)
		if back.Mul(back, big.NewInt(a.Frac.Num)); back.Cmp(big.NewInt(n)) != 0 {
			t.Fatalf("Of(%d) is %v", n, back)
		}
	}
	for n := int64(-3000); n <= 3000; n++ {
		ask(n)
		ask(most - n - 3000)
		ask(-most + n + 3000)
	}
	for shift := range 63 {
		ask(1 << shift)
		ask(-1 << shift)
	}
}

// P4.2: what is written out by hand, with the errors.
func TestReckonedByHand(t *testing.T) {
	speed, second := plain(25, 9, -1, 1, -1), plain(1, 1, 0, 0, 1)
	zero, special := plain(0, 1, 0, 2), tagged(plain(1, 1, 0, 1), 1)
	great, long := plain(most, 1, 0), plain(1, 1, 0, limit)
	for _, c := range []struct {
		what      string
		got, want answer
	}{
		{"a speed times a time", told(worth.Mul(speed, second)), answer{worth: plain(25, 9, -1, 1, 0)}},
		{"a speed by a time", told(worth.Div(speed, second)), answer{worth: plain(25, 9, -1, 1, -2)}},
		{"a speed, squared", told(worth.Pow(speed, 2)), answer{worth: plain(625, 81, -2, 2, -2)}},
		{"1 by a speed", told(worth.Pow(speed, -1)), answer{worth: plain(36, 1, -1, -1, 1)}},
		{"anything to the power of 0", told(worth.Pow(plain(-most, most-4, 3, limit, -limit), 0)), answer{worth: plain(1, 1, 0)}},
		{"0 to the power of 0", told(worth.Pow(zero, 0)), answer{worth: plain(1, 1, 0)}},
		{"0 keeps its dims", told(worth.Mul(zero, second)), answer{worth: plain(0, 1, 0, 2, 1)}},
		{"0 by something", told(worth.Div(zero, second)), answer{worth: plain(0, 1, 0, 2, -1)}},
		{"0, cubed", told(worth.Pow(zero, 3)), answer{worth: plain(0, 1, 0, 6)}},
		{"something by 0", told(worth.Div(second, zero)), fault(api.ErrZero)},
		{"0 by 0", told(worth.Div(zero, zero)), fault(api.ErrZero)},
		{"0 to a power below 0", told(worth.Pow(zero, -1)), fault(api.ErrZero)},
		{"a plain one times a special one", told(worth.Mul(second, special)), fault(api.ErrSpecial)},
		{"a special one times a plain one", told(worth.Mul(special, second)), fault(api.ErrSpecial)},
		{"a special one by itself", told(worth.Div(special, special)), fault(api.ErrSpecial)},
		{"a special one to the power of 1", told(worth.Pow(special, 1)), fault(api.ErrSpecial)},
		{"a number beyond the limits", told(worth.Mul(great, plain(2, 1, 0))), fault(api.ErrOver)},
		{"a power beyond the limits", told(worth.Pow(great, 2)), fault(api.ErrOver)},
		{"dims beyond the limits by a product", told(worth.Mul(long, plain(1, 1, 0, 1))), fault(api.ErrOver)},
		{"dims beyond the limits by a quotient", told(worth.Div(long, plain(1, 1, 0, -1))), fault(api.ErrOver)},
		{"dims beyond the limits by a power", told(worth.Pow(long, 2)), fault(api.ErrOver)},
		{"dims at the limits", told(worth.Pow(plain(1, 1, 0, 1, -1), limit)), answer{worth: plain(1, 1, 0, limit, -limit)}},
		{"dims at the other limits", told(worth.Pow(plain(-1, 1, 0, 1, -1), -limit)), answer{worth: plain(-1, 1, 0, -limit, limit)}},
		{"a power beyond MaxDim", told(worth.Pow(plain(1, 1, 0), limit+1)), fault(api.ErrArg)},
		{"a power below -MaxDim", told(worth.Pow(plain(1, 1, 0), -limit-1)), fault(api.ErrArg)},
	} {
		check(t, c.got, c.want, "%s", c.what)
	}
}

// joined is the answer that the document asks for, if both worths are right and plain: what frac tells, then what dims tell.
func joined(number api.Frac, err api.Errno, powers api.Dims, ok bool) answer {
	if err != api.OK {
		return fault(err)
	}
	if !ok {
		return fault(api.ErrOver)
	}
	return answer{worth: api.Worth{Frac: number, Dims: powers}}
}

// P4.2: products and quotients of all plain worths, each with each.
func TestProductsAndQuotients(t *testing.T) {
	for _, a := range plainOnes() {
		for _, b := range plainOnes() {
			number, err := frac.Mul(a.Frac, b.Frac)
			powers, ok := dims.Add(a.Dims, b.Dims)
			check(t, told(worth.Mul(a, b)), joined(number, err, powers, ok), "Mul(%v, %v)", a, b)
			number, err = frac.Div(a.Frac, b.Frac)
			powers, ok = dims.Sub(a.Dims, b.Dims)
			check(t, told(worth.Div(a, b)), joined(number, err, powers, ok), "Div(%v, %v)", a, b)
		}
	}
}

// P4.2: powers of all plain worths, within the limits and one beyond them.
func TestPowers(t *testing.T) {
	for _, a := range plainOnes() {
		for n := -limit - 3; n <= limit+3; n++ {
			number, err := frac.Pow(a.Frac, n)
			powers, ok := dims.Times(a.Dims, n)
			want := joined(number, err, powers, ok)
			if n < -limit || n > limit {
				want = fault(api.ErrArg)
			}
			check(t, told(worth.Pow(a, n)), want, "Pow(%v, %d)", a, n)
		}
		for _, n := range []int{1 << 32, 1<<32 + 1, -1 << 32, math.MaxInt, math.MinInt} {
			check(t, told(worth.Pow(a, n)), fault(api.ErrArg), "Pow(%v, %d)", a, n)
		}
	}
}

// P4.2: what is not right is ErrArg, on either side, whatever else applies.
func TestWrongWorths(t *testing.T) {
	others := slices.Concat(plainOnes()[:20], specialOnes()[:20], wrongOnes()[:40])
	for _, wrong := range wrongOnes() {
		for _, b := range others {
			check(t, told(worth.Mul(wrong, b)), fault(api.ErrArg), "Mul(%v, %v)", wrong, b)
			check(t, told(worth.Mul(b, wrong)), fault(api.ErrArg), "Mul(%v, %v)", b, wrong)
			check(t, told(worth.Div(wrong, b)), fault(api.ErrArg), "Div(%v, %v)", wrong, b)
			check(t, told(worth.Div(b, wrong)), fault(api.ErrArg), "Div(%v, %v)", b, wrong)
		}
		for _, n := range numbers() {
			check(t, told(worth.Pow(wrong, n)), fault(api.ErrArg), "Pow(%v, %d)", wrong, n)
		}
	}
}

// P4.2: a special worth is ErrSpecial, on either side, whatever its number and its dims would come to.
func TestSpecialWorths(t *testing.T) {
	for _, special := range specialOnes() {
		for _, b := range slices.Concat(plainOnes(), specialOnes()) {
			check(t, told(worth.Mul(special, b)), fault(api.ErrSpecial), "Mul(%v, %v)", special, b)
			check(t, told(worth.Mul(b, special)), fault(api.ErrSpecial), "Mul(%v, %v)", b, special)
			check(t, told(worth.Div(special, b)), fault(api.ErrSpecial), "Div(%v, %v)", special, b)
			check(t, told(worth.Div(b, special)), fault(api.ErrSpecial), "Div(%v, %v)", b, special)
		}
		for _, n := range numbers() {
			want := fault(api.ErrSpecial)
			if n < -limit || n > limit {
				want = fault(api.ErrArg)
			}
			check(t, told(worth.Pow(special, n)), want, "Pow(%v, %d)", special, n)
		}
	}
}

// P4.2, P1, R2: of several errors the one that is named first.
func TestSeveralErrors(t *testing.T) {
	zero, special, wrong := plain(0, 1, 0), tagged(plain(0, 1, 0, -limit), 99), plain(0, 1, 1)
	long, longZero := plain(1, 1, 0, limit), plain(0, 1, 0, -limit)
	for _, c := range []struct {
		what string
		got  answer
		want api.Errno
	}{
		{"a special one, and one that is not right", told(worth.Mul(special, wrong)), api.ErrArg},
		{"one that is not right, and a special one", told(worth.Div(wrong, special)), api.ErrArg},
		{"a tag beyond the limits is not right, and not special", told(worth.Mul(tagged(zero, 100), zero)), api.ErrArg},
		{"a tag below 0 likewise", told(worth.Pow(tagged(zero, -1), 1)), api.ErrArg},
		{"a special one, and a power beyond the limits", told(worth.Pow(special, limit+1)), api.ErrArg},
		{"a special one, and a power below them", told(worth.Pow(special, -limit-1)), api.ErrArg},
		{"0, and a power below the limits", told(worth.Pow(zero, -limit-1)), api.ErrArg},
		{"dims at the limit, and a power beyond it", told(worth.Pow(long, limit+1)), api.ErrArg},
		{"by a special 0, with dims that go beyond the limits", told(worth.Div(long, special)), api.ErrSpecial},
		{"a special 0 to a power below 0", told(worth.Pow(special, -2)), api.ErrSpecial},
		{"a special one, and a number that goes beyond", told(worth.Mul(tagged(plain(most, 1, 0), 1), plain(most, 1, 0))), api.ErrSpecial},
		{"by 0, with dims that go beyond the limits", told(worth.Div(long, longZero)), api.ErrZero},
		{"0 to a power below 0, with dims that go beyond", told(worth.Pow(longZero, -2)), api.ErrZero},
		{"a number and dims that go beyond", told(worth.Mul(plain(most, 1, 0, limit), plain(most, 1, 0, 1))), api.ErrOver},
		{"0, with dims that go beyond", told(worth.Mul(plain(0, 1, 0, limit), long)), api.ErrOver},
	} {
		check(t, c.got, fault(c.want), "%s", c.what)
	}
}

// P4.2: sums, differences and powers of dims at the limits, and one beyond, at each of the places.
func TestEdgesOfDims(t *testing.T) {
	of := func(powers api.Dims) api.Worth { return api.Worth{Frac: api.Frac{Num: 3, Den: 1}, Dims: powers} }
	for place := range 7 {
		for _, sign := range []int{1, -1} {
			last, edge := of(at(place, sign*(limit-1))), of(at(place, sign*limit))
			one, back := of(at(place, sign)), of(at(place, -sign))
			edge.Frac.Num = 9
			check(t, told(worth.Mul(last, one)), answer{worth: edge}, "Mul to the limit at %d", place)
			edge.Frac.Num = 1
			check(t, told(worth.Div(last, back)), answer{worth: edge}, "Div to the limit at %d", place)
			check(t, told(worth.Mul(edge, one)), fault(api.ErrOver), "Mul beyond it at %d", place)
			check(t, told(worth.Div(edge, back)), fault(api.ErrOver), "Div beyond it at %d", place)
			third, half := of(at(place, sign*33)), of(at(place, sign*50))
			edge.Frac.Num = 27
			check(t, told(worth.Pow(third, 3)), answer{worth: edge}, "Pow to the limit at %d", place)
			check(t, told(worth.Pow(half, 2)), fault(api.ErrOver), "Pow beyond it at %d", place)
			check(t, told(worth.Pow(half, -2)), fault(api.ErrOver), "Pow below it at %d", place)
		}
	}
}

// P4.3: texts by hand, with and without dims, plain and not.
func TestTextByHand(t *testing.T) {
	for _, c := range []struct {
		worth api.Worth
		text  string
	}{
		{plain(1, 1, 3, 1, -2), "1e3 m1s-2"},
		{plain(1, 1, 3), "1e3"},
		{plain(0, 1, 0), "0"},
		{plain(0, 1, 0, 0, 0, 1), "0 g1"},
		{plain(-4, 3, 2), "-4/3e2"},
		{plain(602214076, 1, 15, -3), "602214076e15 m-3"},
		{tagged(plain(1, 1, 0), 1), "1 #1"},
		{tagged(plain(0, 1, 0), 99), "0 #99"},
		{tagged(plain(1, 3, 0, 1, 0, -2), 12), "1/3 m1g-2 #12"},
		{tagged(plain(1, 1, 0, 0, 0, 0, 0, 1), 9), "1 k1 #9"},
		{tagged(plain(-most, most-4, -1000, limit, -limit, limit, -limit, limit, -limit, limit), 99), "-9223372036854775807/9223372036854775803e-1000 m99s-99g99r-99k99c-99d99 #99"},

		{api.Worth{}, ""},
		{plain(10, 1, 0, 1), ""},
		{plain(1, 1, 0, limit+1), ""},
		{tagged(plain(1, 1, 0), -1), ""},
		{tagged(plain(1, 1, 0), 100), ""},
	} {
		if got := worth.Text(c.worth); got != c.text {
			t.Errorf("Text(%v): %q, want %q", c.worth, got, c.text)
		}
	}
}

// P4.3: texts of all right worths; of others nothing.
func TestText(t *testing.T) {
	seen := map[string]api.Worth{}
	for _, a := range put(rightFracs(), rightDims(), rightTags()) {
		parts := []string{frac.Text(a.Frac)}
		if a.Dims != (api.Dims{}) {
			parts = append(parts, dims.Text(a.Dims))
		}
		if a.Tag != 0 {
			parts = append(parts, "#"+strconv.Itoa(a.Tag))
		}
		text := worth.Text(a)
		if want := strings.Join(parts, " "); text != want {
			t.Errorf("Text(%v): %q, want %q", a, text, want)
		}
		if other, was := seen[text]; was {
			t.Errorf("%v and %v have the same text: %q", a, other, text)
		}
		seen[text] = a
	}
	for _, a := range wrongOnes() {
		if text := worth.Text(a); text != "" {
			t.Errorf("Text(%v): %q", a, text)
		}
	}
}

// P4.4: what is multiplied, and divided by the same, is what it was, and likewise the other way round.
func TestMultipliedAndDivided(t *testing.T) {
	went := 0
	for _, a := range plainOnes() {
		for _, b := range plainOnes() {
			if product, err := worth.Mul(a, b); err == api.OK && b.Frac.Num != 0 {
				check(t, told(worth.Div(product, b)), answer{worth: a}, "%v, times and by %v", a, b)
				went++
			}
			if quotient, err := worth.Div(a, b); err == api.OK {
				check(t, told(worth.Mul(quotient, b)), answer{worth: a}, "%v, by and times %v", a, b)
				went++
			}
		}
	}
	if went < 1000 {
		t.Errorf("only %d went without an error", went)
	}
}

// P4.4: by 0 it comes to an error, not to another worth.
func TestMultipliedAndDividedByZero(t *testing.T) {
	a, zero := plain(3, 7, 1, 1), plain(0, 1, 0, 0, 1)
	product, err := worth.Mul(a, zero)
	check(t, answer{product, err}, answer{worth: plain(0, 1, 0, 1, 1)}, "times 0")
	check(t, told(worth.Div(product, zero)), fault(api.ErrZero), "by 0")
}

// P4.2, R2: what is told without an error is right and plain, and has the error OK.
func TestAnswersAreRightAndPlain(t *testing.T) {
	ones := slices.Concat(plainOnes(), specialOnes(), wrongOnes())
	right := func(got answer, what string, args ...any) {
		t.Helper()
		if got.err == api.OK && (!worth.Right(got.worth) || got.worth.Tag != 0) || got.err != api.OK && got.worth != (api.Worth{}) {
			t.Fatalf("%s: %v", fmt.Sprintf(what, args...), got)
		}
	}
	for i, a := range ones {
		for _, n := range numbers() {
			right(told(worth.Pow(a, n)), "Pow(%v, %d)", a, n)
		}
		for _, b := range ones[i%7:] {
			right(told(worth.Mul(a, b)), "Mul(%v, %v)", a, b)
			right(told(worth.Div(a, b)), "Div(%v, %v)", a, b)
		}
	}
}

// R4: the same calls have the same answers, whatever was asked between them.
func TestSameCallsSameAnswers(t *testing.T) {
	ask := func() string {
		var s strings.Builder
		for i, a := range slices.Concat(plainOnes(), specialOnes(), wrongOnes()) {
			fmt.Fprintln(&s, worth.Right(a), worth.Text(a), told(worth.Of(a.Frac.Num)), told(worth.Mul(a, a)), told(worth.Div(a, a)), told(worth.Pow(a, i%5-2)))
		}
		return s.String()
	}
	first := ask()
	worth.Of(least)
	worth.Div(plain(1, 1, 0), plain(0, 1, 0))
	worth.Mul(tagged(plain(1, 1, 0), 5), plain(1, 1, 0))
	if ask() != first {
		t.Error("the same calls have other answers")
	}
}
