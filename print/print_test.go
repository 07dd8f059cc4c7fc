package print_test

import (
	"math"
	"slices"
	"strconv"
	"strings"
	"testing"

	"drachm/api"
	"drachm/parse"
	"drachm/print"
	"drachm/symbol"
	"drachm/tree"
)

// P12.1: the document's examples.
func TestExamples(t *testing.T) {
	for _, x := range []struct {
		text string
		n    int
		want printed
	}{
		{"(kg.((m)))/(s2)", 1, printed{text: "kg.m/s2"}}, {"/m{x}", 3, printed{text: "/m<x>"}}, {"Cel", 5, printed{err: errMiss}},
		{"mCel", 5, printed{err: errMiss}}, {"mmol/l", 2, printed{text: "MMOL/L"}},
	} {
		if got := told(x.n, parse.Parse(1, x.text).Tree); got != x.want {
			t.Errorf("Print(%d, of %s): %v, want %v", x.n, x.text, got, x.want)
		}
	}
}

// P12.1: each kind of step, in each notation.
func TestKindsOfSteps(t *testing.T) {
	textsAre(t, []row{
		{"=3", everywhere("3"), 0}, {"0", everywhere("m"), 0}, {"12:8", [6]string{"", "mmol", "MMOL", "mmol", "MMOL", "mmol"}, 0},
		{"0 1 .", everywhere("m.s"), 0}, {"0 1 /", everywhere("m/s"), 0}, {"0 !", everywhere("/m"), 0},
		{"0 'x", everywhere("m{x}"), 1}, {"@x", everywhere("{x}"), 0}, {"0 '", everywhere("m{}"), 1}, {"@", everywhere("{}"), 0},
		{"=2 0 . @X 1^-2 'Y / .", everywhere("2.m.({X}/s^-2{Y})"), 3},
		{"12:8 29 /", [6]string{"", "mmol/l", "MMOL/L", "mmol/L", "MMOL/L", "mmol/l"}, 0},
		{"12 18 . 10 /", [6]string{"", "Pa.Ohm/Hz", "PAL.OHM/HZ", "Pa*Ohm/Hz", "PA.OHM/HZ", "Pa.ohm/Hz"}, 0},
		{"10:30 32 / 33 . 34 /", [6]string{"", "dar/h.d/a", "DAR/HR.D/ANN", "da/h*d/yr", "DARE/HR.D/ANN", "da/hr.d/yr"}, 0},
	})
}

// P12.1: a number has its digits, from one to the greatest one.
func TestNumbers(t *testing.T) {
	for _, n := range []int64{1, 2, 3, 4, 5, 6, 7, 8, 9, 10, 11, 99, 100, 101, 1000, 65536, 4294967296, 1000000000000000000, greatest - 1, greatest} {
		digits := strconv.FormatInt(n, 10)
		for notation := 1; notation <= notations; notation++ {
			if got := told(notation, []api.Step{num(n)}); got != (printed{text: digits}) {
				t.Errorf("Print(%d, the number %d): %v", notation, n, got)
			}
			if got := told(notation, []api.Step{num(n), num(n), does(opDiv), does(opInv)}); got != (printed{text: "/(" + digits + "/" + digits + ")"}) {
				t.Errorf("Print(%d, 1 by %d by itself): %v", notation, n, got)
			}
		}
	}
}

// P12.1, P12.2: powers, with the style's Pow, where it has one; 1 is not told.
func TestPowers(t *testing.T) {
	powers := map[int]string{-99: "^-99", -98: "^-98", -10: "^-10", -9: "^-9", -2: "^-2", -1: "^-1", 0: "^0", 1: "", 2: "^2", 9: "^9", 10: "^10", 11: "^11", 98: "^98", 99: "^99"}
	for power, s := range powers {
		m, g := everywhere("m"+s), everywhere("kg"+s)
		between, noted := everywhere("kg"+s+"/m"+s), everywhere("m"+s+"{x}")
		for n := 1; n <= notations; n++ {
			if got := print.Symbol(n, sym(-1, 0, power)); got != m[n] {
				t.Errorf("Symbol(%d, the metre to the power of %d): %q, want %q", n, power, got, m[n])
			}
			if got := print.Symbol(n, sym(7, 2, power)); got != g[n] {
				t.Errorf("Symbol(%d, the kilogram to the power of %d): %q, want %q", n, power, got, g[n])
			}
			if got := told(n, []api.Step{sym(7, 2, power), sym(-1, 0, power), does(opDiv)}); got != (printed{text: between[n]}) {
				t.Errorf("Print(%d, kilogram by metre, to the power of %d): %v", n, power, got)
			}
			if got := told(n, []api.Step{sym(-1, 0, power), note("x")}); noted[n] != "" && got != (printed{text: noted[n]}) {
				t.Errorf("Print(%d, the metre to the power of %d, with a note): %v", n, power, got)
			}
		}
	}
}

// P12.1: around each kind of tree, on each side of each step, brackets stand just where tree tells of some.
func TestBrackets(t *testing.T) {
	inner := []struct{ tree, text, bracketed string }{
		{"=5", "5", ""}, {"0^2", "m^2", ""}, {"7:2", "kg", ""}, {"2 0 .", "g.m", "X"}, {"2 0 /", "g/m", "X"}, {"2 !", "/g", "X"}, {"2 'n", "g{n}", "note"}, {"@n", "{n}", "note"},
	}
	for _, x := range inner {
		around, noted := x.text, x.text
		if x.bracketed == "X" {
			around = "(" + x.text + ")"
		}
		if x.bracketed != "" {
			noted = "(" + x.text + ")"
		}
		for _, y := range []struct{ tree, text string }{
			{x.tree + " 1 .", x.text + ".s"}, {x.tree + " 1 /", x.text + "/s"}, {"1 " + x.tree + " .", "s." + around}, {"1 " + x.tree + " /", "s/" + around},
			{x.tree + " !", "/" + around}, {x.tree + " 'o", noted + "{o}"},
			{x.tree + " 1 . =7 /", x.text + ".s/7"}, {"1 " + x.tree + " . =7 .", "s." + around + ".7"}, {"=7 1 " + x.tree + " / .", "7.(s/" + around + ")"},
			{x.tree + " ! 'o", "(/" + around + "){o}"}, {x.tree + " 'o !", "/" + noted + "{o}"}, {x.tree + " ! !", "/(/" + around + ")"}, {x.tree + " 'o 'p", "(" + noted + "{o}){p}"},
			{"1 " + x.tree + " 'o /", "s/" + noted + "{o}"}, {x.tree + " 'o 1 .", noted + "{o}.s"}, {x.tree + " ! 1 /", "/" + around + "/s"}, {"1 " + x.tree + " ! .", "s.(/" + around + ")"},
			{x.tree + " 1 . 'o", "(" + x.text + ".s){o}"}, {"1 " + x.tree + " / 'o", "(s/" + around + "){o}"}, {x.tree + " 1 / !", "/(" + x.text + "/s)"}, {"1 " + x.tree + " . !", "/(s." + around + ")"},
			{x.tree + " " + x.tree + " /", x.text + "/" + around}, {x.tree + " " + x.tree + " .", x.text + "." + around},
		} {
			bracketsAre(t, y.tree, y.text)
		}
	}
}

// bracketsAre holds a tree's text; in notations without notes the first one of these is what is wrong.
func bracketsAre(t *testing.T, short, text string) {
	t.Helper()
	of := steps(short)
	first := slices.IndexFunc(of, func(x api.Step) bool { return x.Op == opNote || x.Op == opAlone })
	for n, s := range everywhere(text) {
		want := printed{text: s}
		if n > 0 && s == "" {
			want = printed{at: first, err: errNote}
		}
		if got := told(n, of); n > 0 && got != want {
			t.Errorf("Print(%d, %s): %v, want %v", n, short, got, want)
		}
	}
}

// P12.1: what a note says is told as it stands there; brackets in it are none of the text's.
func TestNotes(t *testing.T) {
	for _, s := range []string{"", "x", "X", "a b", " ", "  ", "m.s/(2)^-1*", "(", ")", "((", "~!\"#$%&'+,-:;=?@[]\\_`|", "mmol", strings.Repeat("(", 40)} {
		for n, text := range [4]string{1: "/({" + s + "}){" + s + "}.m{" + s + "}", 2: "/({" + s + "}){" + s + "}.M{" + s + "}", 3: "/(<" + s + ">)<" + s + ">*m<" + s + ">"} {
			of := []api.Step{alone(s), note(s), does(opInv), sym(-1, 0, 1), note(s), does(opMul)}
			if n == 0 {
				continue
			}
			if got := told(n, of); got != (printed{text: text}) {
				t.Errorf("Print(%d, notes %q): %v, want %q", n, s, got, text)
			}
			holds(t, n, of)
		}
	}
}

// P12.1: notes that a notation does not allow: its own Open and Close, and any where there are none.
func TestNotesThatMayNotBe(t *testing.T) {
	for s, in := range map[string][]int{"": {1, 2, 3}, "x": {1, 2, 3}, "{": {3}, "}": {3}, "a{b": {3}, "b}": {3}, "{}": {3}, "<": {1, 2}, ">": {1, 2}, "a<b": {1, 2}, "b>": {1, 2}, "<>": {1, 2}, "{<": nil, ">}": nil} {
		for n := 1; n <= notations; n++ {
			for at, of := range [][]api.Step{{alone(s)}, {sym(-1, 0, 1), note(s)}, {num(2), sym(-1, 0, 1), note(s), does(opMul)}, {num(2), does(opInv), sym(-1, 0, 1), alone(s), does(opDiv), does(opMul)}} {
				got := told(n, of)
				if slices.Contains(in, n) != (got.err == 0) || got.err != 0 && got != (printed{at: at, err: errNote}) {
					t.Errorf("Print(%d, %v): %v", n, of, got)
				}
				holds(t, n, of)
			}
		}
	}
}

// P12.1: each prefix (and none) with each atom, in each notation: what is not told is missing, also where it has a text.
func TestSymbolsThatAreMissing(t *testing.T) {
	for n := 1; n <= notations; n++ {
		for prefix := -1; prefix < prefixCount; prefix++ {
			for atom := range atomCount {
				of := []api.Step{num(4), sym(prefix, atom, -3), does(opDiv)}
				want := printed{at: 1, err: errMiss}
				switch {
				case !tree.Sound(of):
					want = printed{err: errArg}
				case symbol.Told(n, prefix, atom):
					want = printed{text: "4/" + symbol.Text(n, prefix, atom) + marks[n].pow + "-3"}
				}
				if got := told(n, of); got != want {
					t.Errorf("Print(%d, 4 by %d:%d^-3): %v, want %v", n, prefix, atom, got, want)
				}
			}
		}
	}
	// written out: no code of the atom, none of the prefix, and codes that are those of something else
	missing := [notations + 1][]string{3: {"3:30", "15:23"}, 4: {"7", "39", "40", "41", "47", "0:0", "1:12", "18:2", "19:0", "12:40", "0:40", "2:16", "15:15", "15:46"}, 5: {"21", "39", "40", "12:21", "12:40", "0:40", "3:30"}}
	every := []string{"3:30", "15:23", "7", "39", "40", "41", "47", "0:0", "1:12", "18:2", "19:0", "12:40", "2:16", "15:15", "15:46", "21", "12:21", "0:40"}
	for n := 1; n <= notations; n++ {
		for _, short := range every {
			got := told(n, steps(short))
			if want := slices.Contains(missing[n], short); want != (got.err != 0) || want && got != (printed{err: errMiss}) {
				t.Errorf("Print(%d, %s): %v", n, short, got)
			}
		}
	}
}

// P12.1: of several steps that are missing, or notes that may not be, the first one is told, whichever it is.
func TestFirstStep(t *testing.T) {
	for _, x := range []struct {
		n    int
		tree string
		want printed
	}{
		{5, "0 21 . @x .", printed{at: 1, err: errMiss}}, {5, "0 @x . 21 .", printed{at: 1, err: errNote}}, {5, "21 0 'x .", printed{at: 0, err: errMiss}}, {5, "0 'x 21 .", printed{at: 1, err: errNote}},
		{5, "0 21 . 39 .", printed{at: 1, err: errMiss}}, {5, "0 39 1 21 / . .", printed{at: 1, err: errMiss}}, {5, "0 1 2 21 . . .", printed{at: 3, err: errMiss}}, {5, "21 'x", printed{at: 0, err: errMiss}}, {5, "@x 'y", printed{at: 0, err: errNote}},
		{3, "0 3:30 '<a /", printed{at: 1, err: errMiss}}, {3, "0 '<a 3:30 /", printed{at: 1, err: errNote}}, {3, "0 '{a 1 '>a / 3:30 .", printed{at: 3, err: errNote}}, {3, "@<a @>a .", printed{at: 0, err: errNote}}, {3, "=1 ! @>a 3:30 . .", printed{at: 2, err: errNote}}, {3, "=1 ! 3:30 @>a . .", printed{at: 2, err: errMiss}},
		{1, "0 @{a . @}a .", printed{at: 1, err: errNote}}, {2, "0 'a 1 '}a .", printed{at: 3, err: errNote}}, {1, "0 1 . 2 . '{", printed{at: 5, err: errNote}},
		{4, "0 0:0 . @x .", printed{at: 1, err: errMiss}}, {4, "0 @x 0:0 . .", printed{at: 1, err: errNote}}, {4, "0 1 . 7 . 40 .", printed{at: 3, err: errMiss}}, {4, "=1 =2 . @x .", printed{at: 3, err: errNote}},
		// the same symbol again, and one that differs by its prefix, or by its atom alone
		{5, "0 12:0 . 0 . 12:21 .", printed{at: 5, err: errMiss}}, {3, "3:0 30 . 3:0 . 30 . 3:30 .", printed{at: 7, err: errMiss}}, {3, "4:30 3:31 .", printed{err: errArg}},
	} {
		if got := told(x.n, steps(x.tree)); got != x.want {
			t.Errorf("Print(%d, %s): %v, want %v", x.n, x.tree, got, x.want)
		}
		holds(t, x.n, steps(x.tree))
	}
}

// P12.1, R1: steps that are no tree, and none at all.
func TestNoTrees(t *testing.T) {
	rows := [][]api.Step{nil, {}, make([]api.Step, 0, 3), make([]api.Step, 1), make([]api.Step, 300)}
	for _, short := range []string{"0 1", "=1 =2", ".", "/", "!", "'x", "0 .", "0 /", "0 1 . .", "0 1 . 2", "@x @y", "! 0", "'x 0", ". 0 1", "0 . 1", "0 1 2 .", "7:32", "0 1 . 3:7 /", "=0", "=-1", "0^100", "0^-100", "48", "-1", "20:0", "-2:0"} {
		rows = append(rows, steps(short))
	}
	for _, x := range stepsThatMayNotBe() {
		rows = append(rows, []api.Step{x}, []api.Step{x, num(1), does(opMul)}, []api.Step{num(1), x}, []api.Step{x, does(opInv)})
	}
	rows = append(rows, slices.Repeat(steps("0"), 256), append(slices.Repeat(steps("0"), 129), slices.Repeat(steps("."), 128)...), append(steps("0"), slices.Repeat(steps("!"), 255)...), slices.Repeat(steps("0 1 ."), 1<<16))
	for n := 1; n <= notations; n++ {
		for _, of := range rows {
			if got := told(n, of); got != (printed{err: errArg}) {
				t.Errorf("Print(%d, %v): %v", n, brief(of), got)
			}
		}
	}
}

// stepsThatMayNotBe are steps that are wrong in one part, or in all.
func stepsThatMayNotBe() []api.Step {
	out := []api.Step{{}, {Op: opNum, Num: 1}, {Op: opMul}, {Op: opAlone, Text: "x"}, {Op: opNote}, num(0), num(-1), num(math.MinInt64), alone("\x00"), alone("\x1f"), note("\x7f"), note("\u00b5"), note("\xff"), alone("a\nb")}
	for _, op := range []int{math.MinInt, -2, -1, 0, 8, 9, 256, 258, 1<<32 + 2, math.MaxInt} {
		x := sym(-1, 0, 1)
		x.Op = op
		out = append(out, does(op), x)
	}
	for _, far := range []int{math.MinInt, math.MinInt + 2, -1 << 32, -100, 100, 255, 256, 1 << 32, 1<<32 + 1, math.MaxInt} {
		out = append(out, sym(-1, 0, far), sym(7, 0, far), sym(-1, far, 1), sym(far, 0, 1), sym(far, far, far), api.Step{Op: opNum, Prefix: far, Num: 1}, api.Step{Op: opAlone, Prefix: -1, N: far}, api.Step{Op: opMul, Prefix: -1, Atom: far})
	}
	out = append(out, sym(-1, 48, 1), sym(-1, -1, 1), sym(-2, 0, 1), sym(20, 0, 1), sym(7, 31, 1), sym(12, 7, 1), sym(0, 47, 2))
	for _, wrong := range []api.Step{sym(-1, 0, 1), sym(7, 2, -2), num(3), does(opInv), note("x"), alone("x")} {
		x, y := wrong, wrong
		x.Num, y.Text = x.Num-7, y.Text+"\x80"
		out = append(out, x, y)
	}
	return append(out, api.Step{Op: opSym, Prefix: -1, N: 1, Num: 1}, api.Step{Op: opSym, Prefix: -1, N: 1, Text: "m"})
}

// P12.1: where there is no such notation, that is told of all trees, and of what is none.
func TestNoNotations(t *testing.T) {
	rows := [][]api.Step{nil, {}, steps("0"), steps("0 1 . 'x"), steps("21"), steps("0 1"), steps("@{"), deep(33), long(256), make([]api.Step, 3)}
	for _, n := range noNotations() {
		for _, of := range rows {
			if got := told(n, of); got != (printed{err: errArg}) {
				t.Errorf("Print(%d, %v): %v", n, brief(of), got)
			}
		}
		for _, x := range []api.Step{sym(-1, 0, 1), sym(7, 2, -2), sym(-1, 21, 0), num(1), does(opMul), {}} {
			if got := print.Symbol(n, x); got != "" {
				t.Errorf("Symbol(%d, %v): %q", n, x, got)
			}
		}
	}
}
