package print_test

import (
	"testing"

	"drachm/api"
	"drachm/print"
	"drachm/symbol"
	"drachm/tree"
)

// P12.2: written out: codes of notations, with Pow and without.
func TestSymbols(t *testing.T) {
	for _, x := range []struct {
		short string
		want  [notations + 1]string
	}{
		{"0", [6]string{1: "m", 2: "M", 3: "m", 4: "M", 5: "m"}}, {"0^2", [6]string{1: "m2", 2: "M2", 3: "m^2", 4: "M2", 5: "m^2"}}, {"0^-1", [6]string{1: "m-1", 2: "M-1", 3: "m^-1", 4: "M-1", 5: "m^-1"}}, {"0^0", [6]string{1: "m0", 2: "M0", 3: "m^0", 4: "M0", 5: "m^0"}},
		{"3:11^-99", [6]string{1: "PN-99", 2: "PTN-99", 3: "PN^-99", 4: "PEN-99", 5: "PN^-99"}}, {"9:29^99", [6]string{1: "dal99", 2: "DAL99", 3: "daL^99", 4: "DAL99", 5: "dal^99"}},
		// what has no code has no text, to no power
		{"21^2", [6]string{1: "Cel2", 2: "CEL2", 3: "[oC]^2", 4: "CEL2"}}, {"12:21", [6]string{1: "mCel", 2: "MCEL", 3: "m[oC]", 4: "MCEL"}}, {"0:0", [6]string{1: "Ym", 2: "YAM", 3: "Ym", 5: "Ym"}}, {"7", [6]string{1: "%", 2: "%", 3: "%", 5: "%"}}, {"7^-2", [6]string{1: "%-2", 2: "%-2", 3: "%^-2", 5: "%^-2"}}, {"47^3", [6]string{1: "[dr_av]3", 2: "[DR_AV]3", 3: "dr^3", 5: "dr^3"}}, {"19:40^0", [6]string{1: "yB0", 2: "YOB0", 3: "yB^0"}},
		// a text that is found to be something else is a text
		{"3:30^-2", [6]string{1: "Par-2", 2: "PTAR-2", 3: "Pa^-2", 4: "PEARE-2", 5: "Pa^-2"}}, {"15:23", [6]string{1: "pH", 2: "PH", 3: "pH", 4: "PH", 5: "pH"}}, {"15:15^2", [6]string{1: "pA2", 2: "PA2", 3: "pA^2", 4: "PA2", 5: "pA^2"}}, {"2:16", [6]string{1: "EV", 2: "EXV", 3: "EV", 4: "EV", 5: "EV"}},
	} {
		for n := 1; n <= notations; n++ {
			if got := print.Symbol(n, steps(x.short)[0]); got != x.want[n] {
				t.Errorf("Symbol(%d, %s): %q, want %q", n, x.short, got, x.want[n])
			}
		}
	}
}

// P12.2: each prefix, and none, ahead of each atom, metric or not, in each notation; what is told in Print is this.
func TestAllSymbols(t *testing.T) {
	for n := 1; n <= notations; n++ {
		for prefix := -2; prefix <= prefixCount; prefix++ {
			for atom := -1; atom <= atomCount; atom++ {
				x := sym(prefix, atom, (atom*7+prefix)%100)
				got := print.Symbol(n, x)
				if want := modelSymbol(n, x); got != want {
					t.Errorf("Symbol(%d, %v): %q, want %q", n, x, got, want)
				}
				if symbol.Told(n, prefix, atom) && told(n, []api.Step{x}) != (printed{text: got}) {
					t.Errorf("Print(%d, %v): %v, but Symbol %q", n, x, told(n, []api.Step{x}), got)
				}
			}
		}
	}
}

// P12.2: each power that may be, and those beside them.
func TestAllPowers(t *testing.T) {
	for n := 1; n <= notations; n++ {
		for power := -300; power <= 300; power++ {
			for _, x := range []api.Step{sym(-1, 0, power), sym(7, 2, power)} {
				got := print.Symbol(n, x)
				if want := modelSymbol(n, x); got != want || (got == "") != (power < -99 || power > 99) {
					t.Errorf("Symbol(%d, %v): %q, want %q", n, x, got, want)
				}
			}
		}
	}
}

// P12.2: of another step, and of one that may not be, nothing is told.
func TestNoSymbols(t *testing.T) {
	rows := append(steps("=1 =2 . / ! 'x @x ' @"), num(greatest))
	for _, x := range stepsThatMayNotBe() {
		if tree.Sound([]api.Step{x}) {
			t.Fatalf("%v may be", x)
		}
		rows = append(rows, x)
	}
	for _, n := range append([]int{1, 2, 3, 4, 5}, noNotations()...) {
		for _, x := range rows {
			if got := print.Symbol(n, x); got != "" {
				t.Errorf("Symbol(%d, %v): %q", n, x, got)
			}
		}
	}
}
