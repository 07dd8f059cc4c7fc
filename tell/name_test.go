package tell_test

import (
	"testing"

	"drachm/api"
	"drachm/tell"
)

func named(t *testing.T, x api.Step, want string) {
	t.Helper()
	if got := tell.Name(x); got != want {
		t.Errorf("Name(%v): %q, want %q", x, got, want)
	}
}

// P13.2: written out: symbols with a prefix and without, to any power.
func TestName(t *testing.T) {
	for x, want := range map[[3]int]string{
		{-1, 0, 1}: "m", {-1, 0, 2}: "m", {-1, 0, -1}: "m", {-1, 0, 0}: "m", {-1, 0, 99}: "m", {-1, 0, -99}: "m", {7, 2, 1}: "kg", {7, 2, -3}: "kg",
		{12, 21, 1}: "mCel", {-1, 7, 1}: "%", {-1, 18, 1}: "Ohm", {-1, 29, 3}: "l", {9, 30, 0}: "daar", {10, 30, 1}: "dar", {-1, 34, 1}: "a", {-1, 39, 1}: "[pH]", {15, 23, 1}: "pH", {3, 30, 2}: "Par",
		{13, 41, 1}: "u[iU]", {-1, 38, 1}: "[lb_av]", {-1, 47, -1}: "[dr_av]", {19, 46, 1}: "yeV", {0, 45, 1}: "Yu", {-1, 31, 1}: "min",
	} {
		named(t, sym(x[0], x[1], x[2]), want)
	}
}

// P13.2: each prefix, and none, ahead of each atom, and those beside them, to each power, and those beside them.
func TestAllNames(t *testing.T) {
	m := newModel()
	for prefix := -3; prefix <= prefixCount+1; prefix++ {
		for atom := -2; atom <= atomCount+1; atom++ {
			want := ""
			if prefix >= -1 && prefix < prefixCount && atom >= 0 && atom < atomCount && (prefix == -1 || m.table.Atoms[atom].Metric) {
				want = m.code(1, what{prefix, atom})
				if want == "" {
					t.Fatalf("%d:%d has no code in the notation 1", prefix, atom)
				}
			}
			named(t, sym(prefix, atom, 1), want)
			named(t, sym(prefix, atom, (atom*7+prefix)%100), want)
		}
	}
	for power := -300; power <= 300; power++ {
		kilo, metre := "kg", "m"
		if power < -maxPower || power > maxPower {
			kilo, metre = "", ""
		}
		named(t, sym(7, 2, power), kilo)
		named(t, sym(-1, 0, power), metre)
	}
}

// P13.2: other steps have no name, nor have those that may not be.
func TestNoNames(t *testing.T) {
	others := []api.Step{num(1), num(2), does(opMul), does(opDiv), does(opInv), note(""), note("m"), alone(""), alone("kg")}
	for _, x := range append(others, stepsThatMayNotBe()...) {
		named(t, x, "")
	}
	for op := -3; op <= 12; op++ {
		x := sym(7, 2, 1)
		x.Op = op
		want := ""
		if op == opSym {
			want = "kg"
		}
		named(t, x, want)
	}
}
