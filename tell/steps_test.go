package tell_test

import (
	"math"
	"math/rand"
	"slices"

	"drachm/api"
	"drachm/parse"
)

func num(n int64) api.Step { return api.Step{Op: opNum, Prefix: -1, Num: n} }

func sym(prefix, atom, n int) api.Step {
	return api.Step{Op: opSym, Prefix: prefix, Atom: atom, N: n}
}

func note(text string) api.Step { return api.Step{Op: opNote, Prefix: -1, Text: text} }

func alone(text string) api.Step { return api.Step{Op: opAlone, Prefix: -1, Text: text} }

func does(op int) api.Step { return api.Step{Op: op, Prefix: -1} }

// treeOf is the tree of a text that has one.
func treeOf(n int, s string) []api.Step {
	p := parse.Parse(n, s)
	if p.Err != 0 {
		panic("no tree: " + s)
	}
	return p.Tree
}

// brief is a row that is short enough to be told of.
func brief(of []api.Step) []api.Step { return of[:min(len(of), 12)] }

// deep is a tree with so many brackets in one another: 1 by 1 by, and so on, the metre; of 253 it has as many steps as a tree may have.
func deep(brackets int) []api.Step {
	return append(treeOf(1, "m"), slices.Repeat([]api.Step{does(opInv)}, brackets+1)...)
}

// stepsThatMayNotBe are steps that are wrong in one part, or in all.
func stepsThatMayNotBe() []api.Step {
	out := []api.Step{{}, {Op: opNum, Num: 1}, {Op: opMul}, {Op: opAlone, Text: "x"}, {Op: opNote}, num(0), num(-1), num(math.MinInt64), alone("\x00"), alone("\x1f"), note("\x7f"), note("\u00b5"), note("\xff"), alone("a\nb")}
	for _, op := range []int{math.MinInt, -2, -1, 0, 8, 9, 256, 258, 1<<32 + 2, math.MaxInt} {
		x := sym(-1, 0, 1)
		x.Op = op
		out = append(out, does(op), x)
	}
	for _, far := range []int{math.MinInt, math.MinInt + 2, -1 << 32, -100, 100, 255, 256, 1 << 32, 1<<32 + 1, math.MaxInt} {
		out = append(out, sym(-1, 0, far), sym(7, 0, far), sym(-1, far, 1), sym(far, 0, 1), sym(far, far, far), api.Step{Op: opNum, Prefix: far, Num: 1}, api.Step{Op: opAlone, Prefix: -1, N: far}, api.Step{Op: opMul, Prefix: -1, Atom: far})
	}
	out = append(out, sym(-1, 48, 1), sym(-1, -1, 1), sym(-2, 0, 1), sym(20, 0, 1), sym(7, 31, 1), sym(12, 7, 1), sym(0, 47, 2))
	for _, wrong := range []api.Step{sym(-1, 0, 1), sym(7, 2, -2), num(3), does(opInv), note("x"), alone("x")} {
		x, y := wrong, wrong
		x.Num, y.Text = x.Num-7, y.Text+"\x80"
		out = append(out, x, y)
	}
	return append(out, api.Step{Op: opSym, Prefix: -1, N: 1, Num: 1}, api.Step{Op: opSym, Prefix: -1, N: 1, Text: "m"})
}

// byChance is a tree of so many leaves, with symbols and notes that a notation may not have.
func (m *model) byChance(chance *rand.Rand, leaves int) []api.Step {
	var out []api.Step
	if leaves == 1 {
		out = []api.Step{m.leafByChance(chance)}
	} else {
		left := 1 + chance.Intn(leaves-1)
		out = slices.Concat(m.byChance(chance, left), m.byChance(chance, leaves-left), []api.Step{does(opMul + chance.Intn(2))})
	}
	switch chance.Intn(20) {
	case 0, 1:
		out = append(out, does(opInv))
	case 2:
		out = append(out, note(noteByChance(chance)))
	}
	return out
}

func (m *model) leafByChance(chance *rand.Rand) api.Step {
	powers := []int{-99, -10, -2, -1, 0, 1, 1, 1, 1, 2, 3, 10, 99}
	switch kind := chance.Intn(20); {
	case kind < 3:
		return num(1 + chance.Int63n(1<<chance.Intn(62)+1))
	case kind == 3:
		return alone(noteByChance(chance))
	case kind < 12: // most notations have these
		return sym(-1, chance.Intn(7), powers[chance.Intn(len(powers))])
	}
	w := m.all[chance.Intn(len(m.all))]
	return sym(w.prefix, w.atom, powers[chance.Intn(len(powers))])
}

func noteByChance(chance *rand.Rand) string {
	texts := []string{"", "x", "a b", "m.(s)", "2", "(", ")", "{", "}", "<", ">"}
	return texts[chance.Intn(len(texts))]
}
