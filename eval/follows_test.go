package eval_test

import (
	"math/rand"
	"slices"
	"testing"

	"drachm/api"
	"drachm/eval"
	"drachm/parse"
	"drachm/print"
	"drachm/worth"
)

// P14.3: a product of two trees is worth the product of what both are worth, and a quotient likewise; with an error, the left one's first.
func TestProducts(t *testing.T) {
	t.Parallel()
	chance := rand.New(rand.NewSource(143))
	right := 0
	for range 10000 {
		a, b := byChance(chance, 1+chance.Intn(5)), byChance(chance, 1+chance.Intn(5))
		wa, wb := told(eval.Eval(a)), told(eval.Eval(b))
		for _, op := range []int{opMul, opDiv} {
			is(t, product(op, a, b), told(eval.Eval(product(op, a, b))), together(op, wa, wb))
		}
		if wa.err == 0 && wb.err == 0 {
			right++
		}
	}
	if right < 2500 {
		t.Errorf("just %d right ones", right)
	}
}

// P14.3: the same tree is worth the same, from whichever notation's text.
func TestEachNotation(t *testing.T) {
	t.Parallel()
	m := newModel()
	chance := rand.New(rand.NewSource(5))
	counts := map[int]int{}
	for range 3000 {
		of := byChance(chance, 1+chance.Intn(5))
		want, _ := m.eval(of)
		for n := 1; n <= notations; n++ {
			text, _, err := print.Print(n, of)
			if err != 0 {
				continue
			}
			is(t, text, told(eval.Eval(parse.Parse(n, text).Tree)), want)
			counts[n]++
		}
	}
	for n := 1; n <= notations; n++ {
		if counts[n] < 800 {
			t.Errorf("notation %d: %d texts", n, counts[n])
		}
	}
	for _, texts := range [][notations]string{{"mmol/l", "MMOL/L", "mmol/L", "MMOL/L", "mmol/l"}, {"Gy.a{x}/B", "GY.ANN{x}/B", "Gy*yr<x>/B", "", ""}, {"d/ar.l34", "D/AR.L34", "d/a*L^34", "D/ARE.L34", "d/a.l^34"}, {"uOhm-2", "UOHM-2", "uOhm^-2", "UOHM-2", "uohm^-2"}} {
		want := told(eval.Eval(treeOf(1, texts[0])))
		for n, text := range texts {
			if text != "" {
				is(t, text, told(eval.Eval(treeOf(n+1, text))), want)
			}
		}
	}
}

// P14.3: a special unit goes alone, with notes, in each place and however many; in anything else it is ErrSpecial.
func TestSpecialGoesAlone(t *testing.T) {
	t.Parallel()
	m := newModel()
	var specials [][]api.Step
	for _, atom := range []int{21, 39, 40} {
		for prefix := -1; prefix < prefixCount; prefix++ {
			if prefix < 0 || metric(atom) {
				specials = append(specials, []api.Step{sym(prefix, atom, 1)})
			}
		}
	}
	for _, special := range specials {
		want := m.symbol(special[0])
		if want.err != 0 || want.worth.Tag == 0 {
			t.Fatalf("%v is plain", special)
		}
		noted := slices.Clone(special)
		for range maxText {
			is(t, "with notes", told(eval.Eval(noted)), want)
			is(t, "1 by it", told(eval.Eval(append(slices.Clip(noted), does(opInv)))), ofTooMany(noted))
			if noted = append(noted, note("x")); len(noted) > maxText {
				break
			}
		}
		for _, other := range []string{"1", "m", "{x}", "/s", "kg.m", "Cel", "m0", "9223372036854775807", "m99", "[pH]{x}"} {
			for _, op := range []int{opMul, opDiv} {
				is(t, other, told(eval.Eval(product(op, special, treeOf(1, other)))), fault(errSpecial))
				is(t, other, told(eval.Eval(product(op, treeOf(1, other), special))), fault(errSpecial))
				is(t, other, told(eval.Eval(append(product(op, append(slices.Clone(special), note("a")), treeOf(1, other)), note("b")))), fault(errSpecial))
			}
		}
	}
}

// ofTooMany is the error of 1 by a tree of a special unit, which may be too long with it.
func ofTooMany(of []api.Step) answer {
	if len(of) >= maxText {
		return fault(errArg)
	}
	return fault(errSpecial)
}

// P14.3: what is told is right, and plain, where a tree has more than a symbol and notes; notes change nothing.
func TestWhatIsTold(t *testing.T) {
	t.Parallel()
	chance := rand.New(rand.NewSource(3))
	for range 10000 {
		of := byChance(chance, 1+chance.Intn(6))
		got := told(eval.Eval(of))
		if got.err == 0 && !worth.Right(got.worth) || got.err != 0 && got.worth != (api.Worth{}) {
			t.Fatalf("%v: %v", of, got)
		}
		if got.worth.Tag != 0 && slices.ContainsFunc(of[1:], func(x api.Step) bool { return x.Op != opNote }) {
			t.Fatalf("%v: %v", of, got)
		}
		bare := slices.DeleteFunc(slices.Clone(of), func(x api.Step) bool { return x.Op == opNote })
		is(t, of, told(eval.Eval(bare)), got)
	}
}
