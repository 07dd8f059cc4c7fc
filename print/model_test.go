package print_test

import (
	"math"
	"slices"
	"strconv"
	"strings"
	"testing"

	"drachm/api"
	"drachm/print"
	"drachm/symbol"
	"drachm/tree"
)

// The numbers of the document, written out, so that a changed constant is seen.
const (
	errArg, errLong, errDeep, errSyntax, errMiss, errNote = 1, 12, 13, 14, 16, 17

	opNum, opSym, opMul, opDiv, opInv, opNote, opAlone = 1, 2, 3, 4, 5, 6, 7

	tokLeft, tokRight, tokNote = 7, 8, 9

	notations, atomCount, prefixCount, maxPower, maxNest, maxText = 5, 48, 20, 99, 32, 255

	greatest = 9223372036854775807
)

// marks are the document's styles, by notations from 1 on.
var marks = [notations + 1]struct{ mul, pow, open, close string }{
	1: {".", "", "{", "}"}, 2: {".", "", "{", "}"}, 3: {"*", "^", "<", ">"}, 4: {".", "", "", ""}, 5: {".", "^", "", ""},
}

// noNotations are numbers that no notation has.
func noNotations() []int {
	return []int{math.MinInt, math.MinInt + 1, -5, -2, -1, 0, 6, 7, 256, 257, 1 << 32, 1<<32 + 1, 1<<32 + 3, math.MaxInt}
}

func num(n int64) api.Step { return api.Step{Op: opNum, Prefix: -1, Num: n} }

func sym(prefix, atom, n int) api.Step {
	return api.Step{Op: opSym, Prefix: prefix, Atom: atom, N: n}
}

func note(text string) api.Step { return api.Step{Op: opNote, Prefix: -1, Text: text} }

func alone(text string) api.Step { return api.Step{Op: opAlone, Prefix: -1, Text: text} }

func does(op int) api.Step { return api.Step{Op: op, Prefix: -1} }

// steps are those of a tree, written shortly, with blanks between them: a symbol as its atom, or its prefix, `:` and its atom, and what stands behind `^` as its power; a number behind `=`; `.`, `/`, `!` for times, by, and 1 by; a note behind `'`, one alone behind `@`.
func steps(short string) []api.Step {
	var out []api.Step
	for _, word := range strings.Fields(short) {
		switch word[0] {
		case '.':
			out = append(out, does(opMul))
		case '/':
			out = append(out, does(opDiv))
		case '!':
			out = append(out, does(opInv))
		case '=':
			out = append(out, num(int64(number(word[1:]))))
		case '\'':
			out = append(out, note(word[1:]))
		case '@':
			out = append(out, alone(word[1:]))
		default:
			out = append(out, symbolStep(word))
		}
	}
	return out
}

func symbolStep(word string) api.Step {
	out := sym(-1, 0, 1)
	word, power, raised := strings.Cut(word, "^")
	if raised {
		out.N = number(power)
	}
	prefix, atom, ahead := strings.Cut(word, ":")
	if !ahead {
		out.Atom = number(word)
		return out
	}
	out.Prefix, out.Atom = number(prefix), number(atom)
	return out
}

func number(s string) int {
	n, err := strconv.Atoi(s)
	if err != nil {
		panic(err)
	}
	return n
}

// printed is what Print tells.
type printed struct {
	text string
	at   int
	err  api.Errno
}

func told(n int, t []api.Step) printed {
	text, at, err := print.Print(n, t)
	return printed{text, at, err}
}

// modelPrint is what Print has to tell, gone about from the last step down.
func modelPrint(n int, t []api.Step) printed {
	if n < 1 || n > notations || !tree.Sound(t) {
		return printed{err: errArg}
	}
	for at, x := range t {
		if x.Op == opSym && !symbol.Told(n, x.Prefix, x.Atom) {
			return printed{at: at, err: errMiss}
		}
		if (x.Op == opNote || x.Op == opAlone) && !mayBeNote(n, x.Text) {
			return printed{at: at, err: errNote}
		}
	}
	text, deep := modelText(n, t)
	switch {
	case deep > maxNest:
		return printed{err: errDeep}
	case len(text) > maxText:
		return printed{err: errLong}
	}
	return printed{text: text}
}

func mayBeNote(n int, s string) bool {
	return marks[n].open != "" && !strings.Contains(s, marks[n].open) && !strings.Contains(s, marks[n].close)
}

// modelText is the text of a tree, and how many brackets stand in one another there.
func modelText(n int, t []api.Step) (string, int) {
	last, own := t[len(t)-1], marks[n]
	left, right := tree.Parts(t)
	side := func(but ...int) (string, int) {
		text, deep := modelText(n, right)
		if slices.Contains(but, right[len(right)-1].Op) {
			return "(" + text + ")", deep + 1
		}
		return text, deep
	}
	switch last.Op {
	case opNum:
		return strconv.FormatInt(last.Num, 10), 0
	case opSym:
		return modelSymbol(n, last), 0
	case opAlone:
		return own.open + last.Text + own.close, 0
	case opNote:
		text, deep := side(opMul, opDiv, opInv, opNote, opAlone)
		return text + own.open + last.Text + own.close, deep
	case opInv:
		text, deep := side(opMul, opDiv, opInv)
		return "/" + text, deep
	}
	first, deep := modelText(n, left)
	second, deeper := side(opMul, opDiv, opInv)
	between := "/"
	if last.Op == opMul {
		between = own.mul
	}
	return first + between + second, max(deep, deeper)
}

// modelSymbol is what Symbol has to tell.
func modelSymbol(n int, x api.Step) string {
	only := api.Step{Op: opSym, Prefix: x.Prefix, Atom: x.Atom, N: x.N}
	if n < 1 || n > notations || x != only || x.N < -maxPower || x.N > maxPower {
		return ""
	}
	code := symbol.Text(n, x.Prefix, x.Atom)
	if code == "" || x.N == 1 {
		return code
	}
	return code + marks[n].pow + strconv.Itoa(x.N)
}

func holds(t *testing.T, n int, of []api.Step) printed {
	t.Helper()
	got := told(n, of)
	if want := modelPrint(n, of); got != want {
		t.Errorf("Print(%d, %v): %.300v, want %.300v", n, brief(of), got, want)
	}
	follows(t, n, of, got)
	return got
}

// brief is a row that is short enough to be told of.
func brief(t []api.Step) []api.Step { return t[:min(len(t), 40)] }

// everywhere is a text in each notation, of one with `.`, `/`, `{` and `}`, `^` ahead of each symbol's number, and codes that are the same in all but for raised letters. Where a notation has no notes, a text with some is nothing.
func everywhere(s string) [notations + 1]string {
	var out [notations + 1]string
	for n := 1; n <= notations; n++ {
		own := marks[n]
		if own.open == "" && strings.Contains(s, "{") {
			continue
		}
		text := s
		if n == 2 || n == 4 {
			text = raisedOutside(s)
		}
		out[n] = strings.NewReplacer(".", own.mul, "^", own.pow, "{", own.open, "}", own.close).Replace(text)
	}
	return out
}

// raisedOutside is a text with its letters raised, but for what notes say.
func raisedOutside(s string) string {
	out, rest := "", s
	for rest != "" {
		of, note, _ := strings.Cut(rest, "{")
		text, behind, closed := strings.Cut(note, "}")
		out += strings.ToUpper(of)
		if closed {
			out += "{" + text + "}"
		}
		rest = behind
	}
	return out
}

// row is a tree, and its text in each notation; where that is empty, ErrNote is told at the place.
type row struct {
	tree  string
	texts [notations + 1]string
	at    int
}

func textsAre(t *testing.T, rows []row) {
	t.Helper()
	for _, x := range rows {
		for n := 1; n <= notations; n++ {
			want := printed{text: x.texts[n]}
			if want.text == "" {
				want = printed{at: x.at, err: errNote}
			}
			if got := told(n, steps(x.tree)); got != want {
				t.Errorf("Print(%d, %s): %v, want %v", n, x.tree, got, want)
			}
			holds(t, n, steps(x.tree))
		}
	}
}
