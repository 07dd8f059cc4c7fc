package tell_test

import (
	"fmt"
	"math"
	"slices"
	"strconv"
	"strings"
	"testing"

	"drachm/api"
	"drachm/atoms"
	"drachm/parse"
	"drachm/tell"
	"drachm/tree"
)

// The numbers of the document, written out, so that a changed constant is seen.
const (
	errArg, errLong, errDeep, errSyntax, errSymbol, errMiss, errNote = 1, 12, 13, 14, 15, 16, 17

	opNum, opSym, opMul, opDiv, opInv, opNote, opAlone = 1, 2, 3, 4, 5, 6, 7

	notations, atomCount, prefixCount, maxPower, maxNest, maxText = 5, 48, 20, 99, 32, 255
)

// marks are the document's styles, by notations from 1 on.
var marks = [notations + 1]struct{ mul, pow, open, close string }{
	1: {".", "", "{", "}"}, 2: {".", "", "{", "}"}, 3: {"*", "^", "<", ">"}, 4: {".", "", "", ""}, 5: {".", "^", "", ""},
}

// noNotations are numbers that no notation has.
func noNotations() []int {
	return []int{math.MinInt, math.MinInt + 1, -5, -2, -1, 0, 6, 7, 256, 257, 1 << 32, 1<<32 + 1, 1<<32 + 3, math.MaxInt}
}

// what is what a symbol is: the place of its prefix (-1: none), and of its atom.
type what struct{ prefix, atom int }

// model is the table of units, and of each notation the texts of symbols, of which the first one to have a text keeps it.
type model struct {
	table api.Table
	texts [notations + 1]map[what]string
	is    [notations + 1]map[string]what
	// all are the symbols that may be, atoms alone first, then prefix by prefix.
	all []what
}

func newModel() *model {
	m := &model{table: atoms.Table()}
	for prefix := -1; prefix < prefixCount; prefix++ {
		for atom := range atomCount {
			if prefix == -1 || m.table.Atoms[atom].Metric {
				m.all = append(m.all, what{prefix, atom})
			}
		}
	}
	for n := 1; n <= notations; n++ {
		m.texts[n], m.is[n] = map[what]string{}, map[string]what{}
		for _, w := range m.all {
			text := m.code(n, w)
			if _, was := m.is[n][text]; text != "" && !was {
				m.texts[n][w], m.is[n][text] = text, w
			}
		}
	}
	return m
}

// code is what a symbol's codes are in a notation, though they be those of something else, too; nothing, if one is lacking.
func (m *model) code(n int, w what) string {
	code := m.table.Atoms[w.atom].Codes[n-1]
	if w.prefix == -1 || code == "" {
		return code
	}
	if ahead := m.table.Prefixes[w.prefix].Codes[n-1]; ahead != "" {
		return ahead + code
	}
	return ""
}

// name is what Name has to tell of a symbol.
func (m *model) name(x api.Step) string { return m.code(1, what{x.Prefix, x.Atom}) }

// lacks is the first step of a tree that a notation does not have, and the error of it.
func (m *model) lacks(n int, of []api.Step) (int, api.Errno) {
	for at, x := range of {
		if x.Op == opSym && m.texts[n][what{x.Prefix, x.Atom}] == "" {
			return at, errMiss
		}
		if (x.Op == opNote || x.Op == opAlone) && (marks[n].open == "" || strings.ContainsAny(x.Text, marks[n].open+marks[n].close)) {
			return at, errNote
		}
	}
	return 0, 0
}

// told is what Tell has to tell in a notation of a text with such a tree, that is not too deep: gone about from the tree's last step down.
func (m *model) told(n int, of []api.Step) api.Told {
	at, err := m.lacks(n, of)
	switch err {
	case errMiss:
		return api.Told{Err: err, At: at, Name: m.name(of[at])}
	case errNote:
		return api.Told{Err: err, At: at}
	}
	text := m.written(n, of)
	if len(text) > maxText {
		return api.Told{Err: errLong}
	}
	return api.Told{Text: text}
}

// written is the text of a tree in a notation that has all of it, with as few brackets as may be.
func (m *model) written(n int, of []api.Step) string {
	last, own := of[len(of)-1], marks[n]
	left, right := tree.Parts(of)
	side := func(but ...int) string {
		text := m.written(n, right)
		if slices.Contains(but, right[len(right)-1].Op) {
			return "(" + text + ")"
		}
		return text
	}
	switch last.Op {
	case opNum:
		return strconv.FormatInt(last.Num, 10)
	case opSym:
		code := m.texts[n][what{last.Prefix, last.Atom}]
		if last.N == 1 {
			return code
		}
		return code + own.pow + strconv.Itoa(last.N)
	case opAlone:
		return own.open + last.Text + own.close
	case opNote:
		return side(opMul, opDiv, opInv, opNote, opAlone) + own.open + last.Text + own.close
	case opInv:
		return "/" + side(opMul, opDiv, opInv)
	case opMul:
		return m.written(n, left) + own.mul + side(opMul, opDiv, opInv)
	}
	return m.written(n, left) + "/" + side(opMul, opDiv, opInv)
}

// tells holds what Tell tells.
func tells(t *testing.T, from, to int, s string, want api.Told) {
	t.Helper()
	if got := tell.Tell(from, to, s); got != want {
		t.Errorf("Tell(%d, %d, %.300q): %s, want %s", from, to, s, shown(got), shown(want))
	}
}

// shown is what was told, as a line.
func shown(x api.Told) string {
	return fmt.Sprintf("%.300q, error %d at %d, name %q", x.Text, int(x.Err), x.At, x.Name)
}

// holds holds Tell of any text against the document, in all notations: what is parsed is told as the model does, and told back; all else is parse's error.
func (m *model) holds(t *testing.T, from int, s string) {
	t.Helper()
	p := parse.Parse(from, s)
	for to := 1; to <= notations; to++ {
		if p.Err != 0 {
			tells(t, from, to, s, api.Told{Err: p.Err, At: p.At})
			continue
		}
		want := m.told(to, p.Tree)
		tells(t, from, to, s, want)
		if want.Err == 0 {
			m.follows(t, from, to, s, p.Tree)
		}
	}
}

// follows is P13.3, of a text that can be told: what is told is parsed to the same tree, and told back to one that is parsed to it, too.
func (m *model) follows(t *testing.T, from, to int, s string, of []api.Step) {
	t.Helper()
	there := tell.Tell(from, to, s)
	back := tell.Tell(to, from, there.Text)
	if !isOf(to, there.Text, of) || back.Err != 0 || !isOf(from, back.Text, of) {
		t.Errorf("Tell(%d, %d, %q): %s, and back: %s", from, to, s, shown(there), shown(back))
	}
	if from == to && (there.Err != 0 || back != there || len(there.Text) > len(s)) {
		t.Errorf("Tell(%d, %d, %q): %s, and again: %s", from, to, s, shown(there), shown(back))
	}
}

// isOf tells whether a text is parsed to a tree.
func isOf(n int, s string, of []api.Step) bool {
	p := parse.Parse(n, s)
	return p.Err == 0 && slices.Equal(p.Tree, of)
}
