package alike_test

import (
	"math"
	"slices"
	"testing"

	"drachm/api"
)

func rightFracs() []api.Frac {
	return []api.Frac{
		{Num: 0, Den: 1}, {Num: 1, Den: 1}, {Num: -1, Den: 1}, {Num: 2, Den: 1}, {Num: 25, Den: 9, Ten: -1}, {Num: -4, Den: 3, Ten: 2}, {Num: 7, Den: 1, Ten: 3}, {Num: 1, Den: 3},
		{Num: 1, Den: 1, Ten: 1000}, {Num: 1, Den: 1, Ten: -1000}, {Num: 1, Den: 1, Ten: 1}, {Num: greatest, Den: 1}, {Num: -greatest, Den: 1}, {Num: 1, Den: greatest}, {Num: greatest, Den: greatest - 4, Ten: 10},
	}
}

// wrongFracs are not right, each for a reason of its own.
func wrongFracs() []api.Frac {
	return []api.Frac{
		{}, {Num: 1}, {Num: 1, Den: -1}, {Num: 10, Den: 1}, {Num: 3, Den: 2}, {Num: 3, Den: 5}, {Num: 6, Den: 9}, {Num: 0, Den: 1, Ten: 1}, {Num: 0, Den: 3},
		{Num: 1, Den: 1, Ten: 1001}, {Num: 1, Den: 1, Ten: -1001}, {Num: math.MinInt64, Den: 1}, {Num: 1, Den: math.MinInt64}, {Num: math.MinInt64, Den: math.MinInt64, Ten: math.MinInt},
	}
}

// rightDims are such that some differ at one place alone, whichever it is.
func rightDims() []api.Dims {
	out := []api.Dims{{}, {1, -2}, {-2, 1}, {1, 2, 3, -4, 5, -6, 7}, all(1), all(maxPower), all(-maxPower)}
	for place := range 7 {
		out = append(out, at(place, 1), at(place, -1), at(place, maxPower), at(place, -maxPower))
	}
	return out
}

// wrongDims are not right, by a power at each of the places, or at all.
func wrongDims() []api.Dims {
	var out []api.Dims
	for _, power := range []int{maxPower + 1, -maxPower - 1, 1 << 32, math.MaxInt, math.MinInt} {
		out = append(out, all(power))
		for place := range 7 {
			out = append(out, at(place, power))
		}
	}
	return out
}

func rightTags() []int { return []int{0, 1, 2, 9, 10, 98, maxTag} }

func wrongTags() []int {
	return []int{-1, maxTag + 1, -maxTag, 1000, 1 << 32, math.MaxInt, math.MinInt}
}

// put are all worths of these parts.
func put(fracs []api.Frac, powers []api.Dims, tags []int) []api.Worth {
	var out []api.Worth
	for _, f := range fracs {
		for _, d := range powers {
			for _, tag := range tags {
				out = append(out, api.Worth{Frac: f, Dims: d, Tag: tag})
			}
		}
	}
	return out
}

// rightOnes are some of all kinds of dims, and tags, with three numbers.
func rightOnes() []api.Worth {
	return put([]api.Frac{{Num: 0, Den: 1}, {Num: 1, Den: 1}, {Num: -4, Den: 3, Ten: 2}}, rightDims(), rightTags())
}

// wrongOnes are worths that are not right, by one part alone, and by several.
func wrongOnes() []api.Worth {
	fewFracs, fewDims := []api.Frac{{Num: 0, Den: 1}, {Num: 1, Den: 1}}, []api.Dims{{}, all(maxPower)}
	return slices.Concat(
		[]api.Worth{{}},
		put(wrongFracs(), fewDims, []int{0, 1, maxTag}),
		put(fewFracs, wrongDims(), []int{0, 1, maxTag}),
		put(fewFracs, fewDims, wrongTags()),
		put(wrongFracs()[:5], wrongDims()[:3], wrongTags()[:2]),
	)
}

// The model takes them for what they are meant to be.
func TestWorthsAreAsMeant(t *testing.T) {
	for _, a := range append(rightOnes(), put(rightFracs(), rightDims()[:2], []int{0, 1})...) {
		if !isRight(a) {
			t.Errorf("%v is not right", a)
		}
	}
	for _, a := range wrongOnes() {
		if isRight(a) {
			t.Errorf("%v is right", a)
		}
	}
}
