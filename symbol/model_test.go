package symbol_test

import (
	"iter"
	"math"
	"strconv"
	"strings"
	"testing"

	"drachm/api"
	"drachm/symbol"
)

const (
	notations   = 5
	atomCount   = 48
	prefixCount = 20
)

// row is what the document says of one atom, or prefix: its codes, by notations from 1 on, and whether it is metric.
type row struct {
	codes  [notations + 1]string
	metric bool
}

// read are the document's rows, of which there must be so many, each at its place.
func read(text string, count int) []row {
	var out []row
	for line := range strings.Lines(strings.TrimSpace(text)) {
		cells := strings.Split(strings.TrimSpace(line), "|")
		if len(cells) < notations+1 || cells[0] != strconv.Itoa(len(out)) {
			panic("no row of the document: " + line)
		}
		r := row{metric: cells[len(cells)-1] == "yes"}
		copy(r.codes[1:], cells[1:notations+1])
		out = append(out, r)
	}
	if len(out) != count {
		panic("rows of the document are lacking")
	}
	return out
}

func atomsRead() []row    { return read(atomRows, atomCount) }
func prefixesRead() []row { return read(prefixRows, prefixCount) }

// what is what a symbol is: the place of its prefix (-1: none), and of its atom.
type what struct{ prefix, atom int }

// told is one symbol, with what it is.
type told struct {
	text string
	what
}

// model is what a notation has, gone about the other way round: all texts that there are, in order, of which the first one to have a text keeps it.
type model struct {
	all   []told
	is    map[string]what
	texts map[what]string
}

func modelOf(n int) model {
	m := model{is: map[string]what{}, texts: map[what]string{}}
	if n < 1 || n > notations {
		return m
	}
	put := func(text string, w what) {
		m.texts[w] = text
		if _, was := m.is[text]; !was {
			m.is[text] = w
			m.all = append(m.all, told{text, w})
		}
	}
	for atom, a := range atomsRead() {
		if a.codes[n] != "" {
			put(a.codes[n], what{-1, atom})
		}
	}
	for prefix, p := range prefixesRead() {
		for atom, a := range atomsRead() {
			if a.metric && a.codes[n] != "" && p.codes[n] != "" {
				put(p.codes[n]+a.codes[n], what{prefix, atom})
			}
		}
	}
	return m
}

// find is what Find has to tell.
func (m model) find(s string) (what, bool) {
	w, ok := m.is[s]
	if !ok {
		return what{-1, -1}, false
	}
	return w, true
}

// finds asks of one text in a notation.
func (m model) finds(t *testing.T, n int, s string) {
	t.Helper()
	prefix, atom, ok := symbol.Find(n, s)
	if want, is := m.find(s); (what{prefix, atom}) != want || ok != is {
		t.Errorf("Find(%d, %.40q): %d %d %v, want %v %v", n, s, prefix, atom, ok, want, is)
	}
}

// tells asks of one prefix, and one atom, in a notation.
func (m model) tells(t *testing.T, n, prefix, atom int) {
	t.Helper()
	want := m.texts[what{prefix, atom}]
	if got := symbol.Text(n, prefix, atom); got != want {
		t.Errorf("Text(%d, %d, %d): %q, want %q", n, prefix, atom, got, want)
	}
	again, ok := m.find(want)
	if got, is := symbol.Told(n, prefix, atom), ok && again == (what{prefix, atom}); got != is {
		t.Errorf("Told(%d, %d, %d): %v, want %v", n, prefix, atom, got, is)
	}
}

// others are notations that there are not.
func others() []int {
	return []int{math.MinInt, math.MinInt + 1, -1 << 32, -5, -2, -1, 0, 6, 7, 256, 257, 261, 1<<32 + 1, math.MaxInt}
}

// every are the five notations, and those.
func every() []int { return append([]int{1, 2, 3, 4, 5}, others()...) }

func gather(each iter.Seq2[string, api.Term]) []told {
	var out []told
	for text, term := range each {
		out = append(out, told{text, what{term.Exp, term.Atom}})
	}
	return out
}
