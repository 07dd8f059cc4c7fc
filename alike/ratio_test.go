package alike_test

import (
	"math/rand"
	"slices"
	"testing"

	"drachm/alike"
	"drachm/api"
)

// P15.2: numbers reckoned by hand, and each error.
func TestRatioByHand(t *testing.T) {
	for _, x := range []struct {
		a, b api.Worth
		want string
	}{
		{of("1", "", 0), of("1", "", 0), "1, 0"}, {of("25/9e-1", "m1s-1", 0), of("1", "m1s-1", 0), "25/9e-1, 0"}, {of("1", "m1s-1", 0), of("25/9e-1", "m1s-1", 0), "36e-1, 0"},
		{of("1e3", "m1", 0), of("254e-4", "m1", 0), "5/127e6, 0"}, {of("-6", "s1", 0), of("4", "s1", 0), "-15e-1, 0"}, {of("-6", "s1", 0), of("-4e2", "s1", 0), "15e-3, 0"}, {of("9223372036854775807", "", 0), of("9223372036854775807", "", 0), "1, 0"},
		// a number of 0, on either side
		{of("0", "m1", 0), of("3", "m1", 0), "0, 0"}, {of("0", "m1", 0), of("-7e9", "m1", 0), "0, 0"}, {of("3", "m1", 0), of("0", "m1", 0), "error 11, 0"}, {of("0", "m1", 0), of("0", "m1", 0), "error 11, 0"}, {of("0", "m1", 0), of("0", "s1", 0), "error 16, 0"}, {of("1", "", 1), of("0", "", 1), "error 18, 0"},
		// at the limits, and beyond them
		{of("1e1000", "", 0), of("1", "", 0), "1e1000, 0"}, {of("1e1000", "", 0), of("1e-1", "", 0), "error 10, 0"}, {of("1e-1000", "", 0), of("1", "", 0), "1e-1000, 0"}, {of("1e-1000", "", 0), of("1e1", "", 0), "error 10, 0"}, {of("1e1000", "", 0), of("1e1000", "", 0), "1, 0"}, {of("1e1000", "", 0), of("1e-1000", "", 0), "error 10, 0"},
		{of("9223372036854775807", "", 0), of("1", "", 0), "9223372036854775807, 0"}, {of("9223372036854775807", "", 0), of("2", "", 0), "error 10, 0"}, {of("1", "", 0), of("9223372036854775807", "", 0), "1/9223372036854775807, 0"}, {of("1/3", "", 0), of("9223372036854775807", "", 0), "error 10, 0"}, {of("1/9223372036854775807", "", 0), of("1/9223372036854775807", "", 0), "1, 0"},
		// not alike; special
		{of("1", "m1", 0), of("1", "s1", 0), "error 16, 0"}, {of("1", "m1", 0), of("1", "m1", 1), "error 16, 0"}, {of("1", "m1", 2), of("1", "m1", 1), "error 16, 0"}, {of("1", "k1", 1), of("1", "k1", 1), "error 18, 0"}, {of("1", "k1", 1), of("1e-3", "k1", 1), "error 18, 0"}, {of("1", "", 99), of("1", "", 99), "error 18, 0"},
		// the first one of several
		{of("1", "m1", 1), of("1", "s1", 1), "error 16, 0"}, {of("1e1000", "m1", 0), of("1e-1000", "s1", 0), "error 16, 0"}, {of("1e1000", "", 3), of("1e-1000", "", 3), "error 18, 0"},
		{api.Worth{}, of("1", "", 0), "error 1, 0"}, {of("1", "", 0), api.Worth{}, "error 1, 0"}, {api.Worth{}, api.Worth{}, "error 1, 0"}, {api.Worth{}, of("1", "m1", 0), "error 1, 0"}, {of("1", "m1", 1), api.Worth{Tag: 1}, "error 1, 0"}, {api.Worth{Tag: 100}, api.Worth{Tag: 100}, "error 1, 0"}, {of("0", "", 0), api.Worth{Frac: api.Frac{Num: 1}}, "error 1, 0"},
	} {
		tells(t, ratio(alike.Ratio(x.a, x.b)), x.want, "%v by %v", x.a, x.b)
	}
}

// P15.2: all numbers, by twos, of the same dims; with tags.
func TestRatioByTwos(t *testing.T) {
	for _, tag := range []int{0, 1, maxTag} {
		for _, d := range []api.Dims{{}, {1, -2}, all(-maxPower)} {
			ones := put(rightFracs(), []api.Dims{d}, []int{tag})
			for _, a := range ones {
				for _, b := range ones {
					is(t, ratio(alike.Ratio(a, b)), howMany(a, b), "%v by %v", a, b)
				}
			}
		}
	}
}

// P15.2: the first error of several: of worths that are not right, on either side and on both; that are not alike; that are not plain.
func TestRatioErrors(t *testing.T) {
	counts := map[api.Errno]int{}
	wrong, right := wrongOnes(), rightOnes()
	few := append(slices.Clone(right[:60]), wrong[:60]...)
	for _, a := range slices.Concat(wrong, right) {
		for _, b := range append(few, a) {
			for _, x := range [][2]api.Worth{{a, b}, {b, a}} {
				want := howMany(x[0], x[1])
				is(t, ratio(alike.Ratio(x[0], x[1])), want, "%v by %v", x[0], x[1])
				counts[want.err]++
			}
		}
	}
	for _, err := range []api.Errno{0, errArg, errZero, errMiss, errSpecial} {
		if counts[err] < 50 {
			t.Errorf("error %d is seen %d times", int(err), counts[err])
		}
	}
}

// byChance is a right number, more often a small one.
func byChance(chance *rand.Rand) api.Frac {
	for {
		f := api.Frac{Num: chance.Int63() >> chance.Intn(63), Den: 1 + chance.Int63()>>(1+chance.Intn(62)), Ten: chance.Intn(5) - 2}
		if chance.Intn(2) == 0 {
			f.Num = -f.Num
		}
		if chance.Intn(8) == 0 {
			f.Ten = chance.Intn(2*maxTen+1) - maxTen
		}
		if isForm(f) {
			return f
		}
	}
}

// P15.2: numbers by chance.
func TestRatioByChance(t *testing.T) {
	t.Parallel()
	chance := rand.New(rand.NewSource(15))
	counts := map[api.Errno]int{}
	for range 20000 {
		d := rightDims()[chance.Intn(5)]
		a, b := api.Worth{Frac: byChance(chance), Dims: d}, api.Worth{Frac: byChance(chance), Dims: d}
		want := howMany(a, b)
		is(t, ratio(alike.Ratio(a, b)), want, "%v by %v", a, b)
		counts[want.err]++
	}
	if counts[0] < 2000 || counts[errOver] < 2000 {
		t.Errorf("seen: %v", counts)
	}
}

// R3, R4: the same calls have the same answers, whatever is asked between them.
func TestSameAgain(t *testing.T) {
	a, b, special := of("25/9e-1", "m1s-1", 0), of("1", "m1s-1", 0), of("1", "k1", 1)
	for range 3 {
		tells(t, ratio(alike.Ratio(a, b)), "25/9e-1, 0", "a by b")
		tells(t, ratio(alike.Ratio(special, special)), "error 18, 0", "special")
		tells(t, told(alike.Many(1, "km/h", "m/s")), "25/9e-1, 2", "km/h by m/s")
		tells(t, told(alike.Many(1, "km/h", "q")), "error 15, 1", "km/h by q")
		tells(t, told(alike.Many(2, "KM/HR", "M/S")), "25/9e-1, 2", "KM/HR by M/S")
		if alike.Key(a) != "m1s-1#0" || alike.Key(special) != "k1#1" || alike.Key(api.Worth{}) != "" || !alike.Alike(a, b) || alike.Alike(a, special) {
			t.Error("other keys, or other ones are alike")
		}
	}
}
