package eval_test

import (
	"math"
	"testing"

	"drachm/api"
	"drachm/atoms"
	"drachm/eval"
)

// P14.1: what each atom of the table is worth.
func TestAtoms(t *testing.T) {
	m := newModel()
	table := atoms.Table()
	for i := range atomCount {
		if table.Atoms[i].Codes[0] != m.codes[i] {
			t.Fatalf("atom %d is %s", i, table.Atoms[i].Codes[0])
		}
		is(t, m.codes[i], told(eval.Atom(i)), answer{worth: m.atoms[i]})
	}
}

// P14.1: some atoms, with the numbers of the document seen: a base, one of no terms, one of several, ones of terms that have terms themselves, special ones.
func TestAtomsByHand(t *testing.T) {
	for _, x := range []struct {
		i    int
		want api.Worth
	}{
		{0, api.Worth{Frac: api.Frac{Num: 1, Den: 1}, Dims: api.Dims{1}}},
		{6, api.Worth{Frac: api.Frac{Num: 1, Den: 1}, Dims: api.Dims{0, 0, 0, 0, 0, 0, 1}}},
		{7, api.Worth{Frac: api.Frac{Num: 1, Den: 1, Ten: -2}}},
		{9, api.Worth{Frac: api.Frac{Num: 1, Den: 1}, Dims: api.Dims{0, 0, 0, 2}}},
		{11, api.Worth{Frac: api.Frac{Num: 1, Den: 1, Ten: 3}, Dims: api.Dims{1, -2, 1}}},
		{17, api.Worth{Frac: api.Frac{Num: 1, Den: 1, Ten: -3}, Dims: api.Dims{-2, 2, -1, 0, 0, 2}}},
		{21, api.Worth{Frac: api.Frac{Num: 1, Den: 1}, Dims: api.Dims{0, 0, 0, 0, 1}, Tag: 1}},
		{23, api.Worth{Frac: api.Frac{Num: 1, Den: 1, Ten: 3}, Dims: api.Dims{2, 0, 1, 0, 0, -2}}},
		{39, api.Worth{Frac: api.Frac{Num: 602214076, Den: 1, Ten: 18}, Dims: api.Dims{-3}, Tag: 2}},
		{40, api.Worth{Frac: api.Frac{Num: 1, Den: 1}, Tag: 3}},
		{47, api.Worth{Frac: api.Frac{Num: 17718451953125, Den: 1, Ten: -13}, Dims: api.Dims{0, 0, 1}}},
	} {
		is(t, x.i, told(eval.Atom(x.i)), answer{worth: x.want})
	}
}

// P14.1: places that there are not.
func TestNoAtoms(t *testing.T) {
	for _, i := range append(farPowers(), -48, -47, -2, -1, 48, 49, 50, 67, 68) {
		is(t, i, told(eval.Atom(i)), fault(errArg))
	}
}

// P14.1: each atom with each prefix, and with none, with powers of which some go beyond the limits. Ahead of an atom that is not metric no prefix may stand.
func TestPrefixes(t *testing.T) {
	t.Parallel()
	m := newModel()
	for atom := range atomCount {
		for prefix := -1; prefix < prefixCount; prefix++ {
			for _, n := range []int{-99, -42, -7, -2, -1, 0, 1, 2, 3, 9, 42, 99} {
				x := sym(prefix, atom, n)
				is(t, x, told(eval.Symbol(x)), m.symbol(x))
			}
		}
	}
}

// P14.1: each atom, alone and with a prefix that takes its number far, with each power, and with powers that may not be.
func TestPowers(t *testing.T) {
	t.Parallel()
	m := newModel()
	counts := map[api.Errno]int{}
	for atom := range atomCount {
		for _, prefix := range []int{-1, 0, 19} {
			for n := -maxPower - 3; n <= maxPower+3; n++ {
				x := sym(prefix, atom, n)
				want := m.symbol(x)
				is(t, x, told(eval.Symbol(x)), want)
				counts[want.err]++
			}
		}
	}
	for _, err := range []api.Errno{0, errArg, errOver, errSpecial} {
		if counts[err] < 500 {
			t.Errorf("error %d is seen %d times", err, counts[err])
		}
	}
}

// P14.1: the last powers that are right, and the first that are not: by the number, by its tens, by the dims.
func TestSymbolLimits(t *testing.T) {
	for _, x := range []struct {
		step api.Step
		want string
	}{
		{sym(-1, 0, 99), "1 m99"}, {sym(-1, 0, -99), "1 m-99"},
		{sym(-1, 29, 33), "1e-99 m99"}, {sym(-1, 29, 34), "error 10"}, {sym(-1, 29, -33), "1e99 m-99"}, {sym(-1, 29, -34), "error 10"},
		{sym(-1, 13, 49), "1e147 m98s-98g49"}, {sym(-1, 13, 50), "error 10"}, {sym(-1, 14, 33), "1e99 m66s-99g33"}, {sym(-1, 14, -34), "error 10"},
		{sym(0, 0, 41), "1e984 m41"}, {sym(0, 0, 42), "error 10"}, {sym(19, 0, 41), "1e-984 m41"}, {sym(19, 0, 42), "error 10"}, {sym(0, 0, -41), "1e-984 m-41"}, {sym(0, 0, -42), "error 10"},
		{sym(2, 41, 55), "1e990"}, {sym(2, 41, 56), "error 10"}, {sym(9, 0, 99), "1e99 m99"},
		{sym(-1, 8, 2), "362661793332533776e30"}, {sym(-1, 8, 3), "error 10"}, {sym(-1, 8, -2), "625/22666362083283361e-34"}, {sym(-1, 8, -3), "error 10"},
		{sym(-1, 37, 7), "68208110101184384e-28 m7"}, {sym(-1, 37, 8), "error 10"}, {sym(-1, 37, -9), "1953125/8594754748609397887e27 m-9"}, {sym(-1, 37, -10), "error 10"},
		{sym(-1, 45, 1), "16605390666e-34 g1"}, {sym(-1, 45, 2), "error 10"}, {sym(-1, 7, 99), "1e-198"}, {sym(-1, 41, -99), "1"},
		{sym(7, 0, 0), "1"}, {sym(-1, 45, 0), "1"}, {sym(7, 0, 1), "1e3 m1"}, {sym(12, 8, 1), "602214076e12"}, {sym(7, 36, -1), "1e-11 m1s2g-1"},
	} {
		tells(t, x.step, told(eval.Symbol(x.step)), x.want)
	}
}

// P14.1: special units, alone, with a prefix, and with powers, of which just 1 may be.
func TestSpecialSymbols(t *testing.T) {
	for n := -maxPower; n <= maxPower; n++ {
		for atom, texts := range map[int][2]string{21: {"1 k1 #1", "1e-3 k1 #1"}, 40: {"1 #3", "1e-3 #3"}, 39: {"602214076e18 m-3 #2", "error 1"}} {
			want := texts
			if n != 1 {
				want[0] = "error 18"
				if metric(atom) {
					want[1] = "error 18"
				}
			}
			tells(t, n, told(eval.Symbol(sym(-1, atom, n))), want[0])
			tells(t, n, told(eval.Symbol(sym(12, atom, n))), want[1])
		}
	}
}

// P14.1: steps that are no symbol, and symbols that may not be.
func TestNoSymbols(t *testing.T) {
	for _, x := range []api.Step{num(1), num(greatest), does(opMul), does(opDiv), does(opInv), note(""), note("m"), alone(""), alone("m")} {
		is(t, x, told(eval.Symbol(x)), fault(errArg))
	}
	for _, x := range append(wrongSymbols(), otherWrongSteps()...) {
		is(t, x, told(eval.Symbol(x)), fault(errArg))
	}
}

// R4: the same calls have the same answers, whatever was asked ahead.
func TestSymbolsAgain(t *testing.T) {
	m := newModel()
	for round := range 3 {
		for i := range atomCount {
			atom := (i*(5+round*6) + round) % atomCount
			is(t, atom, told(eval.Atom(atom)), answer{worth: m.atoms[atom]})
			x := sym(-1, atom, -1)
			is(t, x, told(eval.Symbol(x)), m.symbol(x))
			is(t, "none", told(eval.Atom(math.MaxInt-i)), fault(errArg))
		}
	}
}
