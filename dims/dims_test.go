package dims_test

import (
	"fmt"
	"math"
	"math/big"
	"slices"
	"strings"
	"testing"

	"drachm/api"
	"drachm/dims"
)

const (
	limit   = 99
	letters = "msgrkcd"
)

// pair is a place and its power, as Each tells them.
type pair struct{ place, power int }

// at are dims with one power, at that place.
func at(place, power int) api.Dims {
	var a api.Dims
	a[place] = power
	return a
}

// all are dims with the same power at each place.
func all(power int) api.Dims {
	var a api.Dims
	for place := range a {
		a[place] = power
	}
	return a
}

// rightOnes are right dims, ordinary ones and those at the limits.
func rightOnes() []api.Dims {
	out := []api.Dims{
		{}, {1, -2}, {1, -2, 3, -4, 5, -6, 7}, {60, -3}, {39, 3, 1}, {60}, {40}, {39}, {2, 0, 0, 0, -1, 0, 3},
		{98, 99, -98, -99, 1, -1, 0}, {-1, 1, 1, -1, 49, 50, 99}, {99, 0, 0, 0, 0, 0, -99},
	}
	for _, power := range []int{1, -1, 10, -50, 98, limit, -limit} {
		out = append(out, all(power))
		for place := range letters {
			out = append(out, at(place, power))
		}
	}
	return out
}

// wrongOnes are dims that are not right, by a power at each of the places.
func wrongOnes() []api.Dims {
	var out []api.Dims
	for _, power := range []int{limit + 1, -limit - 1, 198, 1 << 20, math.MaxInt, math.MinInt, math.MinInt + limit, math.MaxInt - limit} {
		out = append(out, all(power))
		for place := range letters {
			beside := all(-2)
			beside[place] = power
			out = append(out, at(place, power), beside)
		}
	}
	return out
}

// numbers are so many times, at which something may change.
func numbers() []int {
	out := []int{
		limit, limit + 1, 198, -limit, -limit - 1, 1 << 31, 1 << 32, math.MaxInt, math.MaxInt - 1, math.MinInt, math.MinInt + 1,
		math.MaxInt/limit + 1, math.MinInt/limit - 1, // times 99 they are just beyond an int
		math.MinInt / 2, 1 << 61, 1 << 62, -1 << 62,
	}
	for n := -12; n <= 12; n++ {
		out = append(out, n)
	}
	return out
}

// reckoned is the answer that the document asks for, by numbers of any size, if what is handed in is right.
func reckoned(power func(place int) *big.Int) (api.Dims, bool) {
	var out api.Dims
	for place := range out {
		p := power(place)
		if p.CmpAbs(big.NewInt(limit)) > 0 {
			return api.Dims{}, false
		}
		out[place] = int(p.Int64())
	}
	return out, true
}

func big1(n int) *big.Int { return big.NewInt(int64(n)) }

func same(t *testing.T, got api.Dims, ok bool, want api.Dims, wantOK bool, what string, args ...any) {
	t.Helper()
	if got != want || ok != wantOK {
		t.Fatalf("%s: %v %v, want %v %v", fmt.Sprintf(what, args...), got, ok, want, wantOK)
	}
}

// P3.1: Right, at each of the seven places, at the limits and one beyond them.
func TestRight(t *testing.T) {
	for _, a := range rightOnes() {
		if !dims.Right(a) {
			t.Errorf("Right(%v) is false", a)
		}
	}
	for _, a := range wrongOnes() {
		if dims.Right(a) {
			t.Errorf("Right(%v) is true", a)
		}
	}
	for place := range letters {
		for power := -2 * limit; power <= 2*limit; power++ {
			if got, want := dims.Right(at(place, power)), power >= -limit && power <= limit; got != want {
				t.Errorf("Right of %d at %d: %v", power, place, got)
			}
		}
	}
}

// P3.1: what is written out by hand.
func TestReckonedByHand(t *testing.T) {
	sum, ok := dims.Add(api.Dims{60, -3}, api.Dims{39, 3, 1})
	same(t, sum, ok, api.Dims{99, 0, 1}, true, "Add")
	sum, ok = dims.Add(api.Dims{60, 5}, api.Dims{40, 5})
	same(t, sum, ok, api.Dims{}, false, "Add beyond the limit")
	rest, ok := dims.Sub(api.Dims{1, -2, 3}, api.Dims{0, 5, 3, -7})
	same(t, rest, ok, api.Dims{1, -7, 0, 7}, true, "Sub")
	rest, ok = dims.Sub(api.Dims{1, -60}, api.Dims{0, 40})
	same(t, rest, ok, api.Dims{}, false, "Sub beyond the limit")
	times, ok := dims.Times(api.Dims{1, -2, 0, 0, 3}, -7)
	same(t, times, ok, api.Dims{-7, 14, 0, 0, -21}, true, "Times")
	times, ok = dims.Times(api.Dims{1, 0, 0, 0, 0, 0, 34}, 3)
	same(t, times, ok, api.Dims{}, false, "Times beyond the limit")
}

// P3.1: sums and differences of all right dims, against numbers of any size.
func TestAddAndSub(t *testing.T) {
	for _, a := range rightOnes() {
		for _, b := range rightOnes() {
			sum, ok := dims.Add(a, b)
			want, wantOK := reckoned(func(i int) *big.Int { return new(big.Int).Add(big1(a[i]), big1(b[i])) })
			same(t, sum, ok, want, wantOK, "Add(%v, %v)", a, b)
			rest, ok := dims.Sub(a, b)
			want, wantOK = reckoned(func(i int) *big.Int { return new(big.Int).Sub(big1(a[i]), big1(b[i])) })
			same(t, rest, ok, want, wantOK, "Sub(%v, %v)", a, b)
		}
	}
}

// P3.1: sums and differences at the limits and one beyond, at each of the places.
func TestEdgesOfSums(t *testing.T) {
	for place := range letters {
		for _, sign := range []int{1, -1} {
			most, one := at(place, sign*limit), at(place, sign)
			last := at(place, sign*(limit-1))
			got, ok := dims.Add(last, one)
			same(t, got, ok, most, true, "Add to the limit at %d", place)
			got, ok = dims.Add(most, one)
			same(t, got, ok, api.Dims{}, false, "Add beyond it at %d", place)
			got, ok = dims.Sub(last, at(place, -sign))
			same(t, got, ok, most, true, "Sub to the limit at %d", place)
			got, ok = dims.Sub(most, at(place, -sign))
			same(t, got, ok, api.Dims{}, false, "Sub beyond it at %d", place)
		}
	}
}

// P3.1: so many times, also none, below 0, and the greatest and the least int.
func TestTimes(t *testing.T) {
	for _, a := range rightOnes() {
		for _, n := range numbers() {
			got, ok := dims.Times(a, n)
			want, wantOK := reckoned(func(i int) *big.Int { return new(big.Int).Mul(big1(a[i]), big1(n)) })
			same(t, got, ok, want, wantOK, "Times(%v, %d)", a, n)
		}
		got, ok := dims.Times(a, 0)
		same(t, got, ok, api.Dims{}, true, "Times(%v, 0)", a)
	}
	for _, n := range numbers() {
		got, ok := dims.Times(api.Dims{}, n)
		same(t, got, ok, api.Dims{}, true, "Times of nothing, %d", n)
	}
}

// P3.1: dims that are not right, on either side; also where the sum or the product would be right.
func TestWrongDims(t *testing.T) {
	none := api.Dims{}
	for _, wrong := range wrongOnes() {
		for _, b := range slices.Concat(rightOnes(), wrongOnes()) {
			got, ok := dims.Add(wrong, b)
			same(t, got, ok, none, false, "Add(%v, %v)", wrong, b)
			got, ok = dims.Add(b, wrong)
			same(t, got, ok, none, false, "Add(%v, %v)", b, wrong)
			got, ok = dims.Sub(wrong, b)
			same(t, got, ok, none, false, "Sub(%v, %v)", wrong, b)
			got, ok = dims.Sub(b, wrong)
			same(t, got, ok, none, false, "Sub(%v, %v)", b, wrong)
		}
		for _, n := range numbers() {
			got, ok := dims.Times(wrong, n)
			same(t, got, ok, none, false, "Times(%v, %d)", wrong, n)
		}
	}
	for place := range letters {
		got, ok := dims.Add(at(place, 100), at(place, -1))
		same(t, got, ok, none, false, "Add 100 and -1 at %d", place)
		got, ok = dims.Sub(at(place, -1), at(place, -100))
		same(t, got, ok, none, false, "Sub -1 and -100 at %d", place)
		got, ok = dims.Times(at(place, 100), 0)
		same(t, got, ok, none, false, "Times 100, 0 at %d", place)
	}
}

// pairs are what Each must tell of a.
func pairs(a api.Dims) []pair {
	var out []pair
	for place, power := range a {
		if power != 0 {
			out = append(out, pair{place, power})
		}
	}
	return out
}

// P3.2, R1, R5: Each tells of any dims; it may be left off at each place, and gone over again.
func TestEach(t *testing.T) {
	for _, a := range slices.Concat(rightOnes(), wrongOnes(), []api.Dims{{0, math.MinInt, 0, 0, 0, math.MaxInt, 100}}) {
		told, want := dims.Each(a), pairs(a)
		if told == nil {
			t.Fatalf("Each(%v) is nil", a)
		}
		for most := 0; most <= len(want); most++ {
			var got []pair
			for place, power := range told {
				got = append(got, pair{place, power})
				if len(got) == most {
					break
				}
			}
			if most == 0 && !slices.Equal(got, want) || most > 0 && !slices.Equal(got, want[:most]) {
				t.Fatalf("Each(%v), left off behind %d: %v", a, most, got)
			}
		}
	}
}

// P3.2, R1: two that go over the same dims at once do not disturb each other, and dims changed later change nothing.
func TestEachInEach(t *testing.T) {
	a := api.Dims{1, 0, -2, 0, 0, 0, 3}
	told, want := dims.Each(a), pairs(a)
	a[0], a[1] = 50, 60
	var outer []pair
	for place, power := range told {
		outer = append(outer, pair{place, power})
		var inner []pair
		for place, power := range told {
			inner = append(inner, pair{place, power})
		}
		if !slices.Equal(inner, want) {
			t.Errorf("the inner one: %v", inner)
		}
	}
	if !slices.Equal(outer, want) {
		t.Errorf("the outer one: %v", outer)
	}
}

// P3.2: texts of dims, and back; P3.3: the empty text of nothing.
func TestTextByHand(t *testing.T) {
	for _, c := range []struct {
		dims api.Dims
		text string
	}{
		{api.Dims{1, -2, 0, 0, 0, 0, 0}, "m1s-2"},
		{api.Dims{}, ""},
		{api.Dims{1, 1, 1, 1, 1, 1, 1}, "m1s1g1r1k1c1d1"},
		{api.Dims{99, -99, 10, -10, 0, 9, -9}, "m99s-99g10r-10c9d-9"},
		{api.Dims{0, 0, 0, 0, -14}, "k-14"},
		{api.Dims{2, 0, 0, 0, -1, 0, 3}, "m2k-1d3"},
		{api.Dims{-99, -99, -99, -99, -99, -99, -99}, "m-99s-99g-99r-99k-99c-99d-99"},
	} {
		if got := dims.Text(c.dims); got != c.text {
			t.Errorf("Text(%v): %q, want %q", c.dims, got, c.text)
		}
		got, ok := dims.Read(c.text)
		same(t, got, ok, c.dims, true, "Read(%q)", c.text)
	}
}

// P3.2: each power at each place is told and read back.
func TestEachPowerAtEachPlace(t *testing.T) {
	for place, letter := range letters {
		for power := -limit - 30; power <= limit+30; power++ {
			a, text := at(place, power), fmt.Sprintf("%c%d", letter, power)
			readable := power != 0 && power >= -limit && power <= limit
			wantDims, wantText := a, text
			if !readable {
				wantDims, wantText = api.Dims{}, ""
			}
			if got := dims.Text(a); got != wantText {
				t.Errorf("Text(%v): %q, want %q", a, got, wantText)
			}
			got, ok := dims.Read(text)
			same(t, got, ok, wantDims, readable, "Read(%q)", text)
		}
	}
}

// P3.2, P3.3: what is told of right dims is read to them; of others nothing is told.
func TestToldAndReadBack(t *testing.T) {
	for _, a := range rightOnes() {
		want := ""
		for _, p := range pairs(a) {
			want += fmt.Sprintf("%c%d", letters[p.place], p.power)
		}
		text := dims.Text(a)
		if text != want {
			t.Errorf("Text(%v): %q, want %q", a, text, want)
		}
		got, ok := dims.Read(text)
		same(t, got, ok, a, true, "Read(%q)", text)
	}
	for _, a := range wrongOnes() {
		if got := dims.Text(a); got != "" {
			t.Errorf("Text(%v): %q", a, got)
		}
	}
}

// P3.2: texts that are no dims' Text.
func TestReadOfOtherTexts(t *testing.T) {
	texts := []string{
		"s-2m1", "k1m1", "d1c1", "m1s1g1r1k1d1c1", // out of their order
		"m1m1", "m1m2", "s1s-1", "m1s2s2", "d1d1", "mm1", "m1m", // twice
		"m0", "s0", "m1s0", "m0s1", "m-0", "m00", "d0", "m1d-0", // a power of 0
		"m01", "m-01", "m001", "m1s02", "m099", "m-099", "m000000000000000000000000000001", // leading zeros
		"m+1", "m1s+2", "m+99", "m+-1", "m-+1", "m+0", "m+", // a plus sign
		"m-", "m1s-", "m-s1", "d-", "m--1", "m1-", "m1-1", "-", "--", "-m1", "-1", // a sign alone, or one too many
		"m", "s", "ms1", "m1s", "ms", "d", "msgrkcd", // a letter alone
		"m100", "m-100", "s999", "d100", "m1000", "m1s100", "m100s1", "m18446744073709551617", "m9223372036854775808", "m-9223372036854775809", // more digits
		"1", "1m", "12", "0", "1m1", "m1 ", " m1", "m 1", "m1 s1", "m1\n", "\x00", "m1\x00", "m\x001", "m1,s1", "m1.0", "m1e1", "m0x1", "m1_0", "m_1",
		"M1", "S1", "m1S1", "x1", "a1", "m1x1", "m1s1x", "R1", "m1K1", "m¹", "m١", "µ1", "é", "\xff", "m1\xff", "m\xff1", "m−1", "m1s1g1r1k1c1d1d1", "m1s1g1r1k1c1d1m1", "m1s1g1r1k1c1d1x",
	}
	for _, text := range texts {
		got, ok := dims.Read(text)
		same(t, got, ok, api.Dims{}, false, "Read(%q)", text)
	}
}

// P3.2: any text with a byte put in, taken away or changed is read just if it is some dims' Text.
func TestReadOfTextsNearby(t *testing.T) {
	try := func(text string) {
		t.Helper()
		got, ok := dims.Read(text)
		if ok && (!dims.Right(got) || dims.Text(got) != text) || !ok && got != (api.Dims{}) {
			t.Fatalf("Read(%q): %v %v", text, got, ok)
		}
		if want := isText(text); ok != want {
			t.Fatalf("Read(%q): %v, want %v", text, ok, want)
		}
	}
	for _, text := range []string{"", "m1s-2", "m99g-10d3", "m1s1g1r1k1c1d1", "k-99"} {
		for i := 0; i <= len(text); i++ {
			for b := range 256 {
				try(text[:i] + string([]byte{byte(b)}) + text[i:])
				if i < len(text) {
					try(text[:i] + string([]byte{byte(b)}) + text[i+1:])
				}
			}
			if i < len(text) {
				try(text[:i] + text[i+1:])
			}
		}
	}
}

// isText tells whether s is some dims' Text, by going over its bytes one after the other.
func isText(s string) bool {
	place := 0
	for i := 0; i < len(s); {
		found := strings.IndexByte(letters[place:], s[i])
		if found < 0 {
			return false
		}
		place += found + 1
		i++
		if i < len(s) && s[i] == '-' {
			i++
		}
		start := i
		for i < len(s) && s[i] >= '0' && s[i] <= '9' {
			i++
		}
		if i == start || s[start] == '0' || i-start > 2 {
			return false
		}
	}
	return true
}

// R5: no text is too long.
func TestReadOfLongTexts(t *testing.T) {
	const often = 1 << 20
	for _, text := range []string{
		"m" + strings.Repeat("1", often), "m-" + strings.Repeat("9", often), "m" + strings.Repeat("0", often) + "1", "m" + strings.Repeat("-", often),
		strings.Repeat("m", often), strings.Repeat("m1", often), strings.Repeat(letters, often/8), strings.Repeat(" ", often), strings.Repeat("\x00", often), "m1" + strings.Repeat("x", often),
	} {
		got, ok := dims.Read(text)
		same(t, got, ok, api.Dims{}, false, "Read of %d bytes, from %q", len(text), text[:3])
	}
}

// P3.3: what was added is taken off again.
func TestAddedAndTakenOff(t *testing.T) {
	for _, a := range rightOnes() {
		for _, b := range rightOnes() {
			sum, ok := dims.Add(a, b)
			if !ok {
				continue
			}
			got, ok := dims.Sub(sum, b)
			same(t, got, ok, a, true, "Sub(Add(%v, %v), %v)", a, b, b)
			got, ok = dims.Sub(sum, a)
			same(t, got, ok, b, true, "Sub(Add(%v, %v), %v)", a, b, a)
		}
	}
}

// P3.3: of dims that are all 0, and of those that are not right, the text is empty; it is read to the former alone.
func TestEmptyText(t *testing.T) {
	for _, a := range append(wrongOnes(), api.Dims{}) {
		if text := dims.Text(a); text != "" {
			t.Fatalf("Text(%v): %q", a, text)
		}
		got, ok := dims.Read(dims.Text(a))
		same(t, got, ok, api.Dims{}, true, "Read of the Text of %v", a)
	}
}

// R4: the same calls have the same answers, whatever was asked between them.
func TestSameCallsSameAnswers(t *testing.T) {
	ask := func() string {
		var s strings.Builder
		for _, a := range slices.Concat(rightOnes(), wrongOnes()) {
			sum, ok := dims.Add(a, api.Dims{1, 2, 3})
			rest, okToo := dims.Sub(a, sum)
			times, okThree := dims.Times(rest, 5)
			read, okFour := dims.Read(dims.Text(times))
			fmt.Fprintln(&s, dims.Right(a), sum, ok, rest, okToo, times, okThree, read, okFour, dims.Text(a))
			for place, power := range dims.Each(a) {
				fmt.Fprintln(&s, place, power)
			}
		}
		return s.String()
	}
	first := ask()
	dims.Read("m100")
	dims.Read("m5s7")
	dims.Times(all(2), math.MinInt)
	if ask() != first {
		t.Error("the same calls have other answers")
	}
}
