// Package whole is layer 1: whole numbers, which never go round. See shared/doc/01-whole.md.
package whole

import (
	"iter"
	"math/bits"

	"drachm/api"
)

// lastTried bounds how long Parts looks for divisors.
const lastTried = 1 << 20

// Fits tells whether n is a whole number: all of int64 is, but the least, which has no counterpart above 0.
func Fits(n int64) bool { return n >= -api.MaxWhole }

// Add is the sum of two whole numbers; false, if there is none.
func Add(a, b int64) (int64, bool) {
	if !Fits(a) || !Fits(b) {
		return 0, false
	}
	if a > 0 && b > api.MaxWhole-a || a < 0 && b < -api.MaxWhole-a {
		return 0, false
	}
	return a + b, true
}

// Mul is the product of two whole numbers; false, if there is none.
func Mul(a, b int64) (int64, bool) {
	if !Fits(a) || !Fits(b) {
		return 0, false
	}
	high, low := bits.Mul64(uint64(size(a)), uint64(size(b)))
	if high != 0 || low > api.MaxWhole {
		return 0, false
	}
	if (a < 0) != (b < 0) {
		return -int64(low), true
	}
	return int64(low), true
}

// Gcd is the greatest whole number that divides both; 0, if both are 0, or one is no whole number.
func Gcd(a, b int64) int64 {
	if !Fits(a) || !Fits(b) {
		return 0
	}
	return common(size(a), size(b))
}

// Split is how often by divides n, one time behind the other, and what is left of n then.
func Split(n, by int64) (int, int64) {
	// 0 is divided without end, and so is any number by 1 or -1.
	if n == 0 || !Fits(n) || by < 2 {
		return 0, n
	}
	times := 0
	for n%by == 0 {
		n /= by
		times++
	}
	return times, n
}

// Parts are the prime divisors of n without its sign, rising, each with how often it divides; what is left behind the last divisor that is tried is told as one more.
func Parts(n int64) iter.Seq2[int64, int] {
	return func(yield func(int64, int) bool) {
		if n == 0 || !Fits(n) {
			return
		}
		left := size(n) // n itself stays, so that all of it can be gone over again
	search:
		for d := int64(2); d <= lastTried; d++ {
			switch {
			case d*d > left:
				break search // nothing from d on divides what is left, but itself
			case left%d != 0:
				continue search
			}
			var times int
			times, left = Split(left, d)
			if !yield(d, times) {
				return
			}
		}
		if left > 1 {
			yield(left, 1)
		}
	}
}

// common is the greatest common divisor of two numbers, none of which is below 0.
func common[N ~int64 | ~uint64](a, b N) N {
	for b != 0 {
		a, b = b, a%b
	}
	return a
}

// size is a whole number without its sign; of whole numbers alone that is one, too.
func size(n int64) int64 {
	if n < 0 {
		return -n
	}
	return n
}
