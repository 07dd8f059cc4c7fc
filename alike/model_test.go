package alike_test

import (
	"fmt"
	"math"
	"math/big"
	"testing"

	"drachm/api"
	"drachm/dims"
	"drachm/frac"
)

// The numbers of the document, written out, so that a changed constant is seen.
const (
	errArg, errOver, errZero, errLong, errDeep, errSyntax, errSymbol, errMiss, errSpecial = 1, 10, 11, 12, 13, 14, 15, 16, 18

	notations, maxText, maxNest, maxTen, maxPower, maxTag = 5, 255, 32, 1000, 99, 99

	greatest = 9223372036854775807
)

// answer is what Ratio tells, or, with which text it is of, Many.
type answer struct {
	many  api.Frac
	err   api.Errno
	which int
}

func ratio(many api.Frac, err api.Errno) answer { return answer{many: many, err: err} }

func told(many api.Frac, err api.Errno, which int) answer { return answer{many, err, which} }

func fault(err api.Errno) answer { return answer{err: err} }

// text is an answer, written shortly: the number, or the error's.
func (a answer) text() string {
	if a.err == 0 {
		return fmt.Sprint(frac.Text(a.many), ", ", a.which)
	}
	return fmt.Sprint("error ", int(a.err), ", ", a.which)
}

func is(t *testing.T, got, want answer, what string, args ...any) {
	t.Helper()
	if got != want {
		t.Fatalf("%s: %v, want %v", fmt.Sprintf(what, args...), got, want)
	}
}

// tells asks for an answer by its text; with an error there is no number.
func tells(t *testing.T, got answer, want, what string, args ...any) {
	t.Helper()
	if got.text() != want || got.err != 0 && got.many != (api.Frac{}) {
		t.Errorf("%s: %s, want %s", fmt.Sprintf(what, args...), got.text(), want)
	}
}

// isRight tells whether a worth is right, by the document.
func isRight(a api.Worth) bool {
	for _, power := range a.Dims {
		if power < -maxPower || power > maxPower {
			return false
		}
	}
	return isForm(a.Frac) && a.Tag >= 0 && a.Tag <= maxTag
}

// isForm tells whether a frac is the form of a number, within the limits.
func isForm(a api.Frac) bool {
	if a.Num == 0 {
		return a == api.Frac{Den: 1}
	}
	if a.Den < 1 || a.Den%2 == 0 || a.Den%5 == 0 || a.Num == math.MinInt64 || a.Num%10 == 0 || a.Ten < -maxTen || a.Ten > maxTen {
		return false
	}
	num := new(big.Int).Abs(big.NewInt(a.Num))
	return num.GCD(nil, nil, num, big.NewInt(a.Den)).IsInt64() && num.Int64() == 1
}

// quotient is what is told of one number by another one, both of which are right, by the document.
func quotient(a, b api.Frac) answer {
	if b.Num == 0 {
		return fault(errZero)
	}
	if a.Num == 0 {
		return answer{many: api.Frac{Den: 1}}
	}
	q := new(big.Rat).Mul(big.NewRat(a.Num, a.Den), big.NewRat(b.Den, b.Num))
	num, den, ten := new(big.Int).Set(q.Num()), new(big.Int).Set(q.Denom()), a.Ten-b.Ten
	out := func(n *big.Int, by int64) bool {
		part, rest := new(big.Int).QuoRem(n, big.NewInt(by), new(big.Int))
		if rest.Sign() == 0 {
			n.Set(part)
		}
		return rest.Sign() == 0
	}
	for out(den, 2) {
		num.Mul(num, big.NewInt(5))
		ten--
	}
	for out(den, 5) {
		num.Mul(num, big.NewInt(2))
		ten--
	}
	for out(num, 10) {
		ten++
	}
	got := api.Frac{Num: num.Int64(), Den: den.Int64(), Ten: ten}
	if !num.IsInt64() || !den.IsInt64() || !isForm(got) {
		return fault(errOver)
	}
	return answer{many: got}
}

// areAlike tells whether two worths are, by the document.
func areAlike(a, b api.Worth) bool {
	return isRight(a) && isRight(b) && a.Dims == b.Dims && a.Tag == b.Tag
}

// howMany is what Ratio tells, by the document.
func howMany(a, b api.Worth) answer {
	switch {
	case !isRight(a) || !isRight(b):
		return fault(errArg)
	case !areAlike(a, b):
		return fault(errMiss)
	case a.Tag != 0 || b.Tag != 0:
		return fault(errSpecial)
	}
	return quotient(a.Frac, b.Frac)
}

// of is a worth, of texts of its parts.
func of(number, powers string, tag int) api.Worth {
	f, err := frac.Read(number)
	d, ok := dims.Read(powers)
	if err != 0 || !ok {
		panic("no worth: " + number + " " + powers)
	}
	return api.Worth{Frac: f, Dims: d, Tag: tag}
}

// at are dims with one power, at that place.
func at(place, power int) api.Dims {
	var a api.Dims
	a[place] = power
	return a
}

// all are dims with the same power at each place.
func all(power int) api.Dims {
	var a api.Dims
	for place := range a {
		a[place] = power
	}
	return a
}
