package alike_test

import (
	"strings"
	"testing"

	"drachm/alike"
	"drachm/api"
)

// P15.3: numbers, and errors, reckoned by hand.
func TestManyByHand(t *testing.T) {
	for _, x := range []struct {
		n          int
		s, t, want string
	}{
		{1, "km/h", "m/s", "25/9e-1, 2"}, {1, "m", "s", "error 16, 2"}, {1, "m/s", "km/h", "36e-1, 2"}, {1, "h", "d", "125/3e-3, 2"}, {1, "d", "h", "24, 2"}, {1, "mg/dl", "g/l", "1e-2, 2"}, {1, "Gy", "Sv", "1, 2"}, {1, "bar", "kPa", "1e2, 2"}, {1, "eV/J", "{x}", "1602176634e-28, 2"},
		{2, "KM/HR", "M/S", "25/9e-1, 2"}, {2, "km/hr", "m/s", "25/9e-1, 2"}, {3, "km/h", "m*s^-1", "25/9e-1, 2"}, {4, "KM/HR", "M/S", "25/9e-1, 2"}, {5, "km/hr", "m/s", "25/9e-1, 2"},
		{1, "Cel", "K", "error 16, 2"}, {1, "Cel", "mCel", "error 18, 2"}, {1, "[pH]", "mol/l", "error 16, 2"}, {1, "B", "1", "error 16, 2"}, {3, "[oC]", "K", "error 16, 2"}, {3, "dB", "B<x>", "error 18, 2"},
		{1, "Ym41", "ym41", "error 10, 2"}, {1, "/3", "9223372036854775807", "error 10, 2"},
		{1, "m", "q", "error 15, 1"}, {1, "q", "m", "error 15, 0"}, {1, "(", "q", "error 14, 0"}, {1, "q", "(", "error 15, 0"}, {1, "", "", "error 14, 0"}, {1, "m", "", "error 14, 1"}, {1, "Ym99", "m", "error 10, 0"}, {1, "m", "Ym99", "error 10, 1"},
		// what the first text is worth goes ahead of what the second one is
		{1, "Cel.m", "(", "error 18, 0"}, {1, "m99.m", "q", "error 10, 0"}, {1, "Cel.m", "m99.m", "error 18, 0"}, {1, "m99.m", "Cel.m", "error 10, 0"}, {1, "Cel2", strings.Repeat("m", 256), "error 18, 0"},
		// what the second one is goes ahead of what both are
		{1, "m", "Cel.s", "error 18, 1"}, {1, "Cel", "(", "error 14, 1"}, {1, "Cel", "Cel2", "error 18, 1"},
		// what is none in a notation may be one in another
		{4, "CEL", "K", "error 16, 2"}, {5, "Cel", "K", "error 15, 0"}, {5, "K", "Cel", "error 15, 1"}, {1, "m^2", "m2", "error 14, 0"}, {3, "m2", "m^2", "error 14, 0"}, {3, "m^2", "m2", "error 14, 1"}, {4, "m{x}", "m", "error 14, 0"}, {1, "M", "m", "error 15, 0"}, {2, "M", "m", "1, 2"},
	} {
		tells(t, told(alike.Many(x.n, x.s, x.t)), x.want, "notation %d, %s by %s", x.n, brief(x.s), brief(x.t))
	}
}

// P15.3: all texts of each notation, by twos: those that are units, and those of which each comes to an error.
func TestManyByTwos(t *testing.T) {
	for n := 1; n <= notations; n++ {
		counts := map[[2]int]int{}
		for _, x := range inNotation(n) {
			for _, y := range inNotation(n) {
				want := many(x, y)
				is(t, told(alike.Many(n, x.text, y.text)), want, "notation %d, %s by %s", n, brief(x.text), brief(y.text))
				counts[[2]int{int(want.err), want.which}]++
			}
		}
		for _, err := range []int{errOver, errLong, errDeep, errSyntax, errSymbol} {
			for which := range 2 {
				if counts[[2]int{err, which}] == 0 {
					t.Errorf("notation %d: error %d of text %d is not seen", n, err, which)
				}
			}
		}
		if counts[[2]int{0, 2}] < 50 || counts[[2]int{errOver, 2}] == 0 || counts[[2]int{errMiss, 2}] < 50 || n < 5 && (counts[[2]int{errSpecial, 0}] == 0 || counts[[2]int{errSpecial, 1}] == 0 || counts[[2]int{errSpecial, 2}] == 0) {
			t.Errorf("notation %d: seen: %v", n, counts)
		}
	}
}

// P15.3: the same units have as many of one another in each notation that has them.
func TestEachNotation(t *testing.T) {
	for _, x := range units() {
		for _, y := range units() {
			want := howMany(x.worth(), y.worth())
			want.which = 2
			for n := range notations {
				if s, by := x.texts[n], y.texts[n]; s != "" && by != "" {
					is(t, told(alike.Many(n+1, s, by)), want, "notation %d, %s by %s", n+1, s, by)
				}
			}
		}
	}
}

// P15.3, R1: notations that there are not go ahead of all.
func TestNoNotation(t *testing.T) {
	texts := []string{"m", "", "q", "(", "Cel.m", "s", strings.Repeat("(", 256)}
	for _, n := range noNotations() {
		for _, s := range texts {
			for _, by := range texts {
				is(t, told(alike.Many(n, s, by)), told(api.Frac{}, errArg, 0), "notation %d, %s by %s", n, brief(s), brief(by))
			}
		}
	}
}

// P15.3, R5: texts as long, and as deep, as they may be, and longer ones, on either side.
func TestLongTexts(t *testing.T) {
	for n := 1; n <= notations; n++ {
		times := [notations]string{".", ".", "*", ".", "."}[n-1]
		long := strings.Repeat("1"+times, maxText/2) + "1"
		deep := strings.Repeat("(", maxNest) + "2" + strings.Repeat(")", maxNest)
		if len(long) != maxText {
			t.Fatal(len(long))
		}
		tells(t, told(alike.Many(n, long, deep)), "5e-1, 2", "long by deep")
		tells(t, told(alike.Many(n, deep, long)), "2, 2", "deep by long")
		for _, more := range []string{long + "1", long + "(", strings.Repeat(long+times, 1<<14)} {
			tells(t, told(alike.Many(n, more, "q")), "error 12, 0", "too long by q")
			tells(t, told(alike.Many(n, long, more)), "error 12, 1", "long by too long")
			tells(t, told(alike.Many(n, more, more)), "error 12, 0", "both too long")
			tells(t, told(alike.Many(n, "(", more)), "error 14, 0", "wrong by too long")
		}
		tells(t, told(alike.Many(n, "("+deep+")", "(")), "error 13, 0", "too deep")
		tells(t, told(alike.Many(n, deep, "("+deep+")")), "error 13, 1", "too deep")
	}
}

// P1: texts of all pairs of bytes end, and are not both told and an error.
func TestAnyBytes(t *testing.T) {
	for i := range 1 << 16 {
		s := string([]byte{byte(i >> 8), byte(i)})
		n := 1 + i%notations
		got := told(alike.Many(n, s, "m"))
		other := told(alike.Many(n, s, s))
		if got.err != 0 && got.many != (api.Frac{}) || got.which < 0 || got.which > 2 || (got.which == 0) != (other.which == 0) {
			t.Fatalf("notation %d, %q: %v, %v", n, s, got, other)
		}
		if other.err == 0 {
			tells(t, other, "1, 2", "notation %d, %q by itself", n, s)
		}
	}
}
