package alike_test

import (
	"testing"

	"drachm/alike"
	"drachm/api"
)

// P15.1: two that are alike, and two that differ in one of the dims, or in the tag alone.
func TestAlikeByHand(t *testing.T) {
	for _, x := range []struct {
		a, b api.Worth
		want bool
	}{
		{of("1", "", 0), of("1", "", 0), true}, {of("1", "", 0), of("254e-4", "", 0), true}, {of("0", "", 0), of("1/3", "", 0), true},
		{of("1e3", "m1s-2", 0), of("-1", "m1s-2", 0), true}, {of("1", "k1", 1), of("1e-3", "k1", 1), true}, {of("1", "", 99), of("5", "", 99), true},
		{of("1", "m1s-2g3r4k5c6d-7", 0), of("2", "m1s-2g3r4k5c6d-7", 0), true}, {of("1", "m99s-99", 3), of("1", "m99s-99", 3), true},
		{of("1", "m1", 0), of("1", "", 0), false}, {of("1", "m1", 0), of("1", "m2", 0), false}, {of("1", "m1", 0), of("1", "m-1", 0), false}, {of("1", "m1", 0), of("1", "s1", 0), false},
		{of("1", "m1s-2g3r4k5c6d-7", 0), of("1", "m2s-2g3r4k5c6d-7", 0), false}, {of("1", "m1s-2g3r4k5c6d-7", 0), of("1", "m1s-2g3k5c6d-7", 0), false}, {of("1", "m1s-2g3r4k5c6d-7", 0), of("1", "m1s-2g3r4k5c6d7", 0), false},
		{of("1", "m1", 0), of("1", "m1", 1), false}, {of("1", "", 1), of("1", "", 2), false}, {of("1", "", 9), of("1", "", 99), false}, {of("1", "m1", 1), of("1", "m2", 1), false}, {of("1", "m1", 1), of("1", "m2", 2), false},
	} {
		if alike.Alike(x.a, x.b) != x.want || alike.Alike(x.b, x.a) != x.want {
			t.Errorf("Alike of %v and %v: %v, %v, want %v", x.a, x.b, alike.Alike(x.a, x.b), alike.Alike(x.b, x.a), x.want)
		}
	}
}

// P15.1: dims that differ at one place, by one; tags that do.
func TestOneOff(t *testing.T) {
	for _, d := range rightDims() {
		a := api.Worth{Frac: api.Frac{Num: 1, Den: 1}, Dims: d}
		for place := range 7 {
			b := a
			if b.Dims[place]++; d[place] > 0 { // never beyond the limits
				b.Dims[place] = d[place] - 1
			}
			if !isRight(b) || alike.Alike(a, b) || alike.Alike(b, a) {
				t.Errorf("%v and %v are alike", a, b)
			}
		}
	}
	for i := range maxTag + 1 {
		for k := range maxTag + 1 {
			if got := alike.Alike(of("1", "m1", i), of("2", "m1", k)); got != (i == k) {
				t.Errorf("tags %d and %d: alike is %v", i, k, got)
			}
		}
	}
}

// P15.1: all of many right ones, by twos, also with one key if they are alike, and else not.
func TestAlikeByTwos(t *testing.T) {
	ones := rightOnes()
	keys := make([]string, len(ones))
	for i, a := range ones {
		keys[i] = alike.Key(a)
	}
	for i, a := range ones {
		for k, b := range ones {
			if got, want := alike.Alike(a, b), a.Dims == b.Dims && a.Tag == b.Tag; got != want || (keys[i] == keys[k]) != want {
				t.Fatalf("%v (%s) and %v (%s): alike is %v", a, keys[i], b, keys[k], got)
			}
		}
	}
}

// P15.1: worths that are not right are not alike, to themselves neither, nor have they a key.
func TestNotRight(t *testing.T) {
	wrong := wrongOnes()
	for _, a := range wrong {
		if key := alike.Key(a); key != "" {
			t.Errorf("the key of %v is %s", a, key)
		}
		same := api.Worth{Frac: api.Frac{Num: 1, Den: 1}, Dims: a.Dims, Tag: a.Tag}
		for _, b := range append(rightOnes()[:50], same, a, wrong[0], wrong[len(wrong)-1]) {
			if alike.Alike(a, b) || alike.Alike(b, a) {
				t.Errorf("%v and %v are alike", a, b)
			}
		}
		for _, b := range wrong {
			if alike.Alike(a, b) {
				t.Errorf("%v and %v are alike", a, b)
			}
		}
	}
}

// P15.1: keys: without dims, with dims above and below 0, with a tag and without.
func TestKeys(t *testing.T) {
	for _, x := range []struct {
		a    api.Worth
		want string
	}{
		{of("1", "", 0), "#0"}, {of("0", "", 0), "#0"}, {of("-1/3", "", 0), "#0"}, {of("1", "", 1), "#1"}, {of("1", "", 10), "#10"}, {of("1", "", 99), "#99"},
		{of("1", "m1", 0), "m1#0"}, {of("1", "m-1", 0), "m-1#0"}, {of("25/9e-1", "m1s-1", 0), "m1s-1#0"}, {of("1", "m2s-1", 7), "m2s-1#7"}, {of("1", "d1", 12), "d1#12"},
		{of("1e1000", "m1s-2g3r-4k5c-6d7", 0), "m1s-2g3r-4k5c-6d7#0"}, {api.Worth{Frac: api.Frac{Num: 1, Den: 1}, Dims: all(99), Tag: 99}, "m99s99g99r99k99c99d99#99"}, {api.Worth{Frac: api.Frac{Num: 1, Den: 1}, Dims: all(-99)}, "m-99s-99g-99r-99k-99c-99d-99#0"},
		{api.Worth{}, ""}, {api.Worth{Dims: api.Dims{1}}, ""}, {api.Worth{Frac: api.Frac{Num: 1, Den: 1}, Tag: -1}, ""}, {api.Worth{Frac: api.Frac{Num: 1, Den: 1}, Tag: 100}, ""}, {api.Worth{Frac: api.Frac{Num: 1, Den: 1}, Dims: api.Dims{100}}, ""}, {api.Worth{Frac: api.Frac{Num: 10, Den: 1}, Dims: api.Dims{1}}, ""},
	} {
		if got := alike.Key(x.a); got != x.want {
			t.Errorf("the key of %v: %q, want %q", x.a, got, x.want)
		}
	}
}
