package eval_test

import (
	"slices"
	"strconv"
	"strings"
	"testing"

	"drachm/api"
	"drachm/dims"
	"drachm/frac"
	"drachm/worth"
)

// The numbers of the document, written out, so that a changed constant is seen.
const (
	errArg, errOver, errSpecial = 1, 10, 18

	opNum, opSym, opMul, opDiv, opInv, opNote, opAlone = 1, 2, 3, 4, 5, 6, 7

	notations, atomCount, prefixCount, maxPower, maxText = 5, 48, 20, 99, 255

	greatest = 9223372036854775807
)

// answer is what Atom, Symbol and Eval tell.
type answer struct {
	worth api.Worth
	err   api.Errno
}

func told(w api.Worth, err api.Errno) answer { return answer{w, err} }

func fault(err api.Errno) answer { return answer{err: err} }

// text is an answer, written shortly: the worth, or the error's number.
func (a answer) text() string {
	if a.err == 0 {
		return worth.Text(a.worth)
	}
	return "error " + strconv.Itoa(int(a.err))
}

// tells asks for an answer by its text; with an error there is no worth.
func tells(t *testing.T, what any, got answer, want string) {
	t.Helper()
	if got.text() != want || got.err != 0 && got.worth != (api.Worth{}) {
		t.Errorf("%v: %v %v, want %s", what, got.worth, got.err, want)
	}
}

func is(t *testing.T, what any, got, want answer) {
	t.Helper()
	if got != want {
		t.Fatalf("%v: %v, want %v", what, got, want)
	}
}

// model is what the document tells of the atoms.
type model struct {
	codes [atomCount]string
	atoms [atomCount]api.Worth
}

func newModel() *model {
	m := &model{}
	for i, line := range strings.Split(strings.TrimSpace(worths), "\n") {
		code, text, _ := strings.Cut(line, ": ")
		m.codes[i], m.atoms[i] = code, read(text)
	}
	return m
}

// read is the worth of a text.
func read(text string) api.Worth {
	var out api.Worth
	var err api.Errno
	words := strings.Fields(text)
	out.Frac, err = frac.Read(words[0])
	ok := err == 0
	for _, word := range words[1:] {
		if tag, special := strings.CutPrefix(word, "#"); special {
			out.Tag, _ = strconv.Atoi(tag)
		} else {
			out.Dims, ok = dims.Read(word)
		}
	}
	if !ok || worth.Text(out) != text {
		panic("no worth: " + text)
	}
	return out
}

func metric(atom int) bool { return !slices.Contains(notMetric, atom) }

// symbol is what a symbol is worth, by the document. A prefix's tens are added to those of the number, as no number of theirs goes beyond the limits, or is 0.
func (m *model) symbol(x api.Step) answer {
	if x.Atom < 0 || x.Atom >= atomCount || x.Prefix < -1 || x.Prefix >= prefixCount || x.Prefix >= 0 && !metric(x.Atom) || x.N < -maxPower || x.N > maxPower {
		return fault(errArg)
	}
	w := m.atoms[x.Atom]
	if x.Prefix >= 0 {
		w.Frac.Ten += tens[x.Prefix]
	}
	if x.N == 1 {
		return answer{worth: w}
	}
	if w.Tag != 0 {
		return fault(errSpecial)
	}
	return told(worth.Pow(w, x.N))
}

// eval is what the tree is worth that ends with the last one of these steps, and where it begins, by the document. It is gone about from the last step down, and so from each side of a product to what that is of.
func (m *model) eval(of []api.Step) (answer, int) {
	last := len(of) - 1
	x := of[last]
	switch x.Op {
	case opNum:
		return told(worth.Of(x.Num)), last
	case opSym:
		return m.symbol(x), last
	case opAlone:
		return told(worth.Of(1)), last
	case opNote:
		return m.eval(of[:last])
	}
	right, at := m.eval(of[:last])
	left := told(worth.Of(1))
	if x.Op != opInv {
		left, at = m.eval(of[:at])
	}
	return together(x.Op, left, right), at
}

// together is what a product, or a quotient, of two answers is. The left one's error goes ahead, as its steps do.
func together(op int, left, right answer) answer {
	switch {
	case left.err != 0:
		return left
	case right.err != 0:
		return right
	case op == opMul:
		return told(worth.Mul(left.worth, right.worth))
	}
	return told(worth.Div(left.worth, right.worth))
}
