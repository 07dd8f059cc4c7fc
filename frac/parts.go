package frac

import (
	"drachm/api"
	"drachm/whole"
)

// ofTen are the primes of which ten is made.
var ofTen = [2]int64{2, 5}

// parts are a number taken apart: a quotient, in which neither is divided by 2 or 5, den is from 1 on, and both have no common divisor but 1; and the powers of 2 and of 5 that it is multiplied by. So num and den are never greater on the way than in the form: what goes beyond the limits there, does so in the end.
type parts struct {
	num, den int64
	powers   [2]int
}

// apart are the parts of the whole number n, times ten to the power of ten.
func apart(n int64, ten int) parts {
	p := parts{num: n, den: 1}
	for i, prime := range ofTen {
		p.powers[i], p.num = whole.Split(p.num, prime)
		p.powers[i] += ten
	}
	return p
}

// partsOf are the parts of a right frac, in whose Den there are no twos and fives.
func partsOf(a api.Frac) parts {
	p := apart(a.Num, a.Ten)
	p.den = a.Den
	return p
}

// turned is 1 by a number that is not 0.
func (p parts) turned() parts {
	out := parts{num: p.den, den: p.num}
	if out.den < 0 {
		out.num, out.den = -out.num, -out.den
	}
	for i, power := range p.powers {
		out.powers[i] = -power
	}
	return out
}

// form is the number's form, if that is right.
func (p parts) form() (api.Frac, api.Errno) {
	if p.num == 0 {
		return api.Frac{Den: 1}, api.OK
	}
	ten := min(p.powers[0], p.powers[1])
	if ten < -api.MaxTen || ten > api.MaxTen {
		return api.Frac{}, api.ErrOver
	}
	num := p.num
	for i, prime := range ofTen {
		for range p.powers[i] - ten {
			var ok bool
			if num, ok = whole.Mul(num, prime); !ok {
				return api.Frac{}, api.ErrOver
			}
		}
	}
	return api.Frac{Num: num, Den: p.den, Ten: ten}, api.OK
}

// join is the form of p, with which so often something was put together.
func join(p parts, often int, put func(parts) (parts, bool)) (api.Frac, api.Errno) {
	for range often {
		var ok bool
		if p, ok = put(p); !ok {
			return api.Frac{}, api.ErrOver
		}
	}
	return p.form()
}

// times puts a number together with y, to their product; false, if that has no right form. Common divisors go out first: a product in which they were left could go beyond the limits where the form does not.
func times(y parts) func(parts) (parts, bool) {
	return func(x parts) (parts, bool) {
		left, right := whole.Gcd(x.num, y.den), whole.Gcd(y.num, x.den)
		num, fits := whole.Mul(x.num/left, y.num/right)
		den, fitsToo := whole.Mul(x.den/right, y.den/left)
		if !fits || !fitsToo {
			return parts{}, false
		}
		out := parts{num: num, den: den}
		for i := range out.powers {
			out.powers[i] = x.powers[i] + y.powers[i]
		}
		return out, true
	}
}
