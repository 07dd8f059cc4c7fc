package tree_test

import (
	"math"
	"slices"
	"strings"

	"drachm/api"
)

// The numbers of the document, written out, so that a changed constant is seen.
const (
	opNum, opSym, opMul, opDiv, opInv, opNote, opAlone = 1, 2, 3, 4, 5, 6, 7

	atomCount, prefixCount, maxPower, maxSteps = 48, 20, 99, 255
)

// notMetric are the places of the atoms that have no in the document's column Metric.
func notMetric() []int { return []int{7, 31, 32, 33, 34, 37, 38, 39, 47} }

func num(n int64) api.Step { return api.Step{Op: opNum, Prefix: -1, Num: n} }

func sym(prefix, atom, n int) api.Step {
	return api.Step{Op: opSym, Prefix: prefix, Atom: atom, N: n}
}

func note(text string) api.Step { return api.Step{Op: opNote, Prefix: -1, Text: text} }

func alone(text string) api.Step { return api.Step{Op: opAlone, Prefix: -1, Text: text} }

var (
	mul = api.Step{Op: opMul, Prefix: -1}
	div = api.Step{Op: opDiv, Prefix: -1}
	inv = api.Step{Op: opInv, Prefix: -1}
)

// letter is a symbol, by one of the letters a to z: the atom of that place.
func letter(c byte) api.Step { return sym(-1, int(c-'a'), 1) }

// row are steps, written shortly: letters are symbols, digits numbers, and . / ! ' @ are Mul, Div, Inv, Note and Alone.
func row(short string) []api.Step {
	var out []api.Step
	for i := range len(short) {
		switch c := short[i]; {
		case c >= 'a' && c <= 'z':
			out = append(out, letter(c))
		case c >= '1' && c <= '9':
			out = append(out, num(int64(c-'0')))
		case c == '.':
			out = append(out, mul)
		case c == '/':
			out = append(out, div)
		case c == '!':
			out = append(out, inv)
		case c == '\'':
			out = append(out, note("x"))
		case c == '@':
			out = append(out, alone("y"))
		}
	}
	return out
}

// takes is how many trees each kind of step takes, by Op.
var takes = [8]int{opMul: 2, opDiv: 2, opInv: 1, opNote: 1}

// may is whether a step may be, as the document says it, part by part.
func may(x api.Step) bool {
	if x.Op < 1 || x.Op > 7 {
		return false
	}
	if x.Op != opNum && x.Num != 0 || x.Op == opNum && x.Num < 1 {
		return false
	}
	if x.Op != opNote && x.Op != opAlone && x.Text != "" {
		return false
	}
	if strings.IndexFunc(x.Text, func(r rune) bool { return r < 32 || r > 126 }) >= 0 {
		return false
	}
	if x.Op != opSym {
		return x.Prefix == -1 && x.Atom == 0 && x.N == 0
	}
	if x.Atom < 0 || x.Atom >= atomCount || x.N < -maxPower || x.N > maxPower {
		return false
	}
	return x.Prefix == -1 || x.Prefix >= 0 && x.Prefix < prefixCount && !slices.Contains(notMetric(), x.Atom)
}

// node is a tree, with its sides beneath it.
type node struct {
	step  api.Step
	sides []*node
}

// cut is the tree that ends steps, and the steps ahead of it: it is read from the end back, the other way round than the document does it.
func cut(t []api.Step) (*node, []api.Step) {
	if len(t) == 0 || !may(t[len(t)-1]) {
		return nil, nil
	}
	out := &node{step: t[len(t)-1]}
	t = t[:len(t)-1]
	for range takes[out.step.Op] {
		side, ahead := cut(t)
		if side == nil {
			return nil, nil
		}
		out.sides = append([]*node{side}, out.sides...)
		t = ahead
	}
	return out, t
}

// grown is the tree that steps are; nil, if they are none.
func grown(t []api.Step) *node {
	if len(t) > maxSteps {
		return nil
	}
	out, ahead := cut(t)
	if len(ahead) != 0 {
		return nil
	}
	return out
}

// steps are those of a tree, in order.
func (n *node) steps() []api.Step {
	if n == nil {
		return nil
	}
	var out []api.Step
	for _, side := range n.sides {
		out = append(out, side.steps()...)
	}
	return append(out, n.step)
}

// text is a tree's text, without what stands in notes; brackets stand where the document has them.
func (n *node) text() string {
	right := func(but ...int) string {
		side := n.sides[len(n.sides)-1]
		if slices.Contains(but, side.step.Op) {
			return "(" + side.text() + ")"
		}
		return side.text()
	}
	switch n.step.Op {
	case opNum:
		return "1"
	case opSym:
		return "m"
	case opAlone:
		return "{}"
	case opNote:
		return right(opMul, opDiv, opInv, opNote, opAlone) + "{}"
	case opInv:
		return "/" + right(opMul, opDiv, opInv)
	case opMul:
		return n.sides[0].text() + "." + right(opMul, opDiv, opInv)
	}
	return n.sides[0].text() + "/" + right(opMul, opDiv, opInv)
}

// deepest is how many brackets stand in one another in a text.
func deepest(text string) int {
	deep, most := 0, 0
	for _, c := range text {
		switch c {
		case '(':
			deep++
		case ')':
			deep--
		}
		most = max(most, deep)
	}
	return most
}

// alphabet has one right step of each kind.
func alphabet() []api.Step {
	return []api.Step{num(3), sym(7, 2, -2), mul, div, inv, note("x"), alone("y")}
}

// farNumbers are numbers far from any place, some of which are small ones if bits are cut off.
func farNumbers() []int {
	return []int{math.MinInt, math.MinInt + 1, math.MinInt + 2, -1 << 32, -(1 << 31), -256, -100, 100, 256, 257, 258, 1 << 31, 1 << 32, 1<<32 + 1, 1<<32 + 2, math.MaxInt}
}
