package eval_test

import (
	"math"
	"math/rand"
	"slices"

	"drachm/api"
	"drachm/parse"
)

func num(n int64) api.Step { return api.Step{Op: opNum, Prefix: -1, Num: n} }

func sym(prefix, atom, n int) api.Step {
	return api.Step{Op: opSym, Prefix: prefix, Atom: atom, N: n}
}

func note(text string) api.Step { return api.Step{Op: opNote, Prefix: -1, Text: text} }

func alone(text string) api.Step { return api.Step{Op: opAlone, Prefix: -1, Text: text} }

func does(op int) api.Step { return api.Step{Op: op, Prefix: -1} }

// treeOf is the tree of a text that has one.
func treeOf(n int, s string) []api.Step {
	p := parse.Parse(n, s)
	if p.Err != 0 {
		panic("no tree: " + s)
	}
	return p.Tree
}

// brief is a row that is short enough to be told of.
func brief(of []api.Step) []api.Step { return of[:min(len(of), 12)] }

// product is the tree of what is done with two trees.
func product(op int, left, right []api.Step) []api.Step {
	return slices.Concat(left, right, []api.Step{does(op)})
}

// farPowers are numbers at which a power, or a place, may go wrong.
func farPowers() []int {
	return []int{math.MinInt, math.MinInt + 1, math.MinInt + 2, -1 << 32, -1<<32 + 1, -256, -255, -101, -100, 100, 101, 255, 256, 257, 1 << 31, 1 << 32, 1<<32 + 1, math.MaxInt - 1, math.MaxInt}
}

// wrongSymbols are those that may not be, by one part, or by all.
func wrongSymbols() []api.Step {
	var out []api.Step
	for _, far := range farPowers() {
		out = append(out, sym(-1, 0, far), sym(7, 0, far), sym(-1, 21, far), sym(-1, far, 1), sym(7, far, 1), sym(far, 0, 1), sym(far, 21, 1), sym(far, far, far))
	}
	for _, place := range []int{-3, -2, 48, 49, 50} {
		out = append(out, sym(-1, place, 1), sym(0, place, 1), sym(place, 0, 1))
	}
	out = append(out, sym(-1, -1, 1), sym(7, -1, 1), sym(20, 0, 1))
	for _, atom := range notMetric {
		out = append(out, sym(0, atom, 1), sym(7, atom, 2), sym(19, atom, 0))
	}
	for _, x := range []api.Step{sym(-1, 0, 1), sym(7, 2, -2), sym(-1, 21, 1)} {
		counted, noted := x, x
		counted.Num, noted.Text = 1, "m"
		out = append(out, counted, noted)
	}
	return append(out, api.Step{Op: opSym, Prefix: -1, N: 1, Num: math.MinInt64, Text: "\xff"})
}

// otherWrongSteps are those that may not be, and are no symbols.
func otherWrongSteps() []api.Step {
	out := []api.Step{{}, {Op: opNum, Num: 1}, {Op: opMul}, {Op: opInv}, {Op: opAlone, Text: "x"}, {Op: opNote}, num(0), num(-1), num(-7), num(math.MinInt64), alone("\x00"), alone("\x1f"), note("\x7f"), note("\u00b5"), note("\xff"), alone("a\nb")}
	for _, op := range []int{math.MinInt, -2, -1, 0, 8, 9, 256, 258, 1<<32 + 2, math.MaxInt} {
		x := sym(-1, 0, 1)
		x.Op = op
		out = append(out, does(op), x)
	}
	for _, far := range farPowers() {
		out = append(out, api.Step{Op: opNum, Prefix: far, Num: 1}, api.Step{Op: opAlone, Prefix: -1, N: far}, api.Step{Op: opMul, Prefix: -1, Atom: far})
	}
	for _, x := range []api.Step{num(3), does(opInv), does(opDiv), note("x"), alone("x")} {
		counted, noted, placed := x, x, x
		counted.Num, noted.Text, placed.Atom = x.Num-7, x.Text+"\x80", 1
		out = append(out, counted, noted, placed)
	}
	return out
}

// byChance is a tree of so many leaves. Most of its symbols are few, so that not each tree has an error.
func byChance(chance *rand.Rand, leaves int) []api.Step {
	var out []api.Step
	if leaves == 1 {
		out = []api.Step{leafByChance(chance)}
	} else {
		left := 1 + chance.Intn(leaves-1)
		out = product(opMul+chance.Intn(2), byChance(chance, left), byChance(chance, leaves-left))
	}
	switch chance.Intn(16) {
	case 0, 1:
		out = append(out, does(opInv))
	case 2:
		out = append(out, note("x"))
	}
	return out
}

func leafByChance(chance *rand.Rand) api.Step {
	powers := []int{-50, -3, -2, -1, 0, 1, 1, 1, 1, 2, 3, 50, 99}
	power := powers[chance.Intn(len(powers))]
	switch kind := chance.Intn(40); {
	case kind < 4:
		return num(1 + chance.Int63n(1<<chance.Intn(24)+1))
	case kind == 4:
		return num(greatest - chance.Int63n(1<<chance.Intn(62)))
	case kind == 5:
		return alone("y")
	case kind == 6: // some of these are special
		return sym(-1, chance.Intn(atomCount), 1)
	case kind < 24:
		return sym(-1, chance.Intn(7), power)
	}
	plain := []int{10, 11, 13, 15, 16, 19, 23, 29, 36, 41}
	return sym(chance.Intn(prefixCount+1)-1, plain[chance.Intn(len(plain))], power)
}
