package parse_test

import (
	"math"
	"slices"
	"strconv"
	"strings"
	"testing"

	"drachm/api"
	"drachm/lex"
	"drachm/parse"
	"drachm/symbol"
)

// The numbers of the document, written out, so that a changed constant is seen.
const (
	errArg, errLong, errDeep, errSyntax, errSymbol = 1, 12, 13, 14, 15

	tokSym, tokNum, tokSign, tokMul, tokDiv, tokPow, tokLeft, tokRight, tokNote = 1, 2, 3, 4, 5, 6, 7, 8, 9

	opNum, opSym, opMul, opDiv, opInv, opNote, opAlone = 1, 2, 3, 4, 5, 6, 7

	notations, maxNest, maxText = 5, 32, 255
)

// noNotations are numbers that no notation has.
func noNotations() []int {
	return []int{math.MinInt, math.MinInt + 1, -5, -2, -1, 0, 6, 7, 256, 257, 1 << 32, 1<<32 + 1, 1<<32 + 3, math.MaxInt}
}

// hasPow are the notations that write a Pow.
func hasPow(n int) bool { return n == 3 || n == 5 }

// rule is one of the grammar: what a name may be. It is written out with the document's names; what may be left out, or stand any number of times, by rules of its own.
type rule struct {
	name string
	is   []string
}

func grammar(n int) []rule {
	var out []rule
	lines := "main: Div items | items; items: item | items Mul item | items Div item; item: base | base Note | Note; base: Sym | Sym power | Base | Left main Right; "
	if hasPow(n) {
		lines += "power: Pow Num | Pow Sign Num"
	} else {
		lines += "power: Num | Sign Num"
	}
	for _, line := range strings.Split(lines, "; ") {
		name, rest, _ := strings.Cut(line, ": ")
		for _, one := range strings.Split(rest, " | ") {
			out = append(out, rule{name, strings.Fields(one)})
		}
	}
	return out
}

// fits tells whether a token is what a rule has in small and capital letters; Base is a Num of a base, Num one behind a Sym.
func fits(what string, x api.Token) bool {
	switch what {
	case "Base":
		return x.Kind == tokNum && x.N >= 1
	case "Num":
		return x.Kind == tokNum && x.N >= 0 && x.N <= 99
	}
	return x.Kind == map[string]int{"Sym": tokSym, "Sign": tokSign, "Mul": tokMul, "Div": tokDiv, "Pow": tokPow, "Left": tokLeft, "Right": tokRight, "Note": tokNote}[what] && x.Kind != 0
}

// begun is a rule that began at some place, and of which so much is there.
type begun struct{ rule, there, from int }

// chart is all that may have been begun, at each place of a row so far: rows that no rule leads to leave nothing begun.
type chart struct {
	rules  []rule
	places [][]begun
}

func chartOf(n int) *chart {
	c := &chart{rules: grammar(n), places: [][]begun{nil}}
	c.foretell("main")
	c.close()
	return c
}

func (c *chart) last() int { return len(c.places) - 1 }

func (c *chart) add(b begun) {
	if !slices.Contains(c.places[c.last()], b) {
		c.places[c.last()] = append(c.places[c.last()], b)
	}
}

func (c *chart) foretell(name string) {
	for i, r := range c.rules {
		if r.name == name {
			c.add(begun{i, 0, c.last()})
		}
	}
}

// next is what a rule has next; nothing, if all of it is there.
func (c *chart) next(b begun) string {
	if is := c.rules[b.rule].is; b.there < len(is) {
		return is[b.there]
	}
	return ""
}

// close adds what follows from what is there.
func (c *chart) close() {
	for i := 0; i < len(c.places[c.last()]); i++ {
		b := c.places[c.last()][i]
		if next := c.next(b); next != "" {
			c.foretell(next)
			continue
		}
		for _, over := range c.places[b.from] {
			if c.next(over) == c.rules[b.rule].name {
				c.add(begun{over.rule, over.there + 1, over.from})
			}
		}
	}
}

// take tells whether a token can stand there, and goes beyond it.
func (c *chart) take(x api.Token) bool {
	var on []begun
	for _, b := range c.places[c.last()] {
		if fits(c.next(b), x) {
			on = append(on, begun{b.rule, b.there + 1, b.from})
		}
	}
	c.places = append(c.places, on)
	c.close()
	return len(on) > 0
}

func (c *chart) whole() bool {
	for _, b := range c.places[c.last()] {
		if b.from == 0 && c.rules[b.rule].name == "main" && c.next(b) == "" {
			return true
		}
	}
	return false
}

// modelTree is what Tree has to tell: by the chart, whether there is a tree, and by cuts from the end, which one.
func modelTree(n int, l []api.Token, size int) api.Parsed {
	if n < 1 || n > notations {
		return api.Parsed{Err: errArg}
	}
	c, open := chartOf(n), 0
	for _, x := range l {
		if !c.take(x) {
			return api.Parsed{Err: errSyntax, At: x.At}
		}
		switch x.Kind {
		case tokLeft:
			open++
		case tokRight:
			open--
		}
		if open > maxNest {
			return api.Parsed{Err: errDeep, At: x.At}
		}
	}
	if !c.whole() {
		return api.Parsed{Err: errSyntax, At: size}
	}
	for _, x := range l {
		if _, _, ok := symbol.Find(n, x.Text); x.Kind == tokSym && !ok {
			return api.Parsed{Err: errSymbol, At: x.At, Len: len(x.Text)}
		}
	}
	return api.Parsed{Tree: mainOf(n, l), At: size}
}

// mainOf is the tree of a main, which is cut at its last Mul or Div.
func mainOf(n int, l []api.Token) []api.Step {
	at, open := len(l)-1, 0
	for ; at > 0; at-- {
		switch l[at].Kind {
		case tokLeft:
			open++
		case tokRight:
			open--
		}
		if open == 0 && (l[at].Kind == tokMul || l[at].Kind == tokDiv) {
			break
		}
	}
	switch {
	case at > 0 && l[at].Kind == tokMul:
		return slices.Concat(mainOf(n, l[:at]), itemOf(n, l[at+1:]), []api.Step{{Op: opMul, Prefix: -1}})
	case at > 0:
		return slices.Concat(mainOf(n, l[:at]), itemOf(n, l[at+1:]), []api.Step{{Op: opDiv, Prefix: -1}})
	case l[0].Kind == tokDiv:
		return append(itemOf(n, l[1:]), api.Step{Op: opInv, Prefix: -1})
	}
	return itemOf(n, l)
}

func itemOf(n int, l []api.Token) []api.Step {
	last := l[len(l)-1]
	switch {
	case last.Kind != tokNote:
		return baseOf(n, l)
	case len(l) == 1:
		return []api.Step{{Op: opAlone, Prefix: -1, Text: last.Text}}
	}
	return append(baseOf(n, l[:len(l)-1]), api.Step{Op: opNote, Prefix: -1, Text: last.Text})
}

func baseOf(n int, l []api.Token) []api.Step {
	last := l[len(l)-1]
	switch l[0].Kind {
	case tokLeft:
		return mainOf(n, l[1:len(l)-1])
	case tokNum:
		return []api.Step{{Op: opNum, Prefix: -1, Num: last.N}}
	}
	out := api.Step{Op: opSym, N: 1}
	out.Prefix, out.Atom, _ = symbol.Find(n, l[0].Text)
	if len(l) > 1 {
		out.N = int(last.N)
	}
	if slices.ContainsFunc(l, func(x api.Token) bool { return x.Kind == tokSign && x.Text == "-" }) {
		out.N = -out.N
	}
	return []api.Step{out}
}

// modelParse is what Parse has to tell.
func modelParse(n int, s string) api.Parsed {
	if n < 1 || n > notations {
		return api.Parsed{Err: errArg}
	}
	if len(s) > maxText {
		return api.Parsed{Err: errLong}
	}
	l := slices.Collect(lex.Each(n, s))
	if _, end, err := lex.Lex(n, s); err != 0 {
		l = append(l, api.Token{Kind: -1, At: end})
	}
	return modelTree(n, l, len(s))
}

func same(a, b api.Parsed) bool {
	return slices.Equal(a.Tree, b.Tree) && a.Err == b.Err && a.At == b.At && a.Len == b.Len
}

func holdsTree(t *testing.T, n int, l []api.Token, size int) {
	t.Helper()
	if got, want := parse.Tree(n, l, size), modelTree(n, l, size); !same(got, want) {
		t.Errorf("Tree(%d, %v, %d): %v, want %v", n, l[:min(len(l), 60)], size, got, want)
	}
}

// holdsParse holds Parse against the model, and against what follows: what it tells is one or the other, and a tree.
func holdsParse(t *testing.T, n int, s string) {
	t.Helper()
	got := parse.Parse(n, s)
	if want := modelParse(n, s); !same(got, want) {
		t.Errorf("Parse(%d, %q): %v, want %v", n, s, got, want)
	}
	follows(t, n, s, got)
}

// steps are those of a tree, written shortly, with blanks between them: a symbol as its atom, or its prefix, `:` and its atom, and what stands behind `^` as its power; a number behind `=`; `.`, `/`, `!` for times, by, and 1 by; a note behind `'`, one alone behind `@`.
func steps(short string) []api.Step {
	var out []api.Step
	for _, word := range strings.Fields(short) {
		out = append(out, step(word))
	}
	return out
}

func step(word string) api.Step {
	number := func(s string) int {
		n, err := strconv.Atoi(s)
		if err != nil {
			panic(word)
		}
		return n
	}
	rest := word[1:]
	switch word[0] {
	case '.':
		return api.Step{Op: opMul, Prefix: -1}
	case '/':
		return api.Step{Op: opDiv, Prefix: -1}
	case '!':
		return api.Step{Op: opInv, Prefix: -1}
	case '=':
		return api.Step{Op: opNum, Prefix: -1, Num: int64(number(rest))}
	case '\'':
		return api.Step{Op: opNote, Prefix: -1, Text: rest}
	case '@':
		return api.Step{Op: opAlone, Prefix: -1, Text: rest}
	}
	out := api.Step{Op: opSym, Prefix: -1, N: 1}
	if word, power, ok := strings.Cut(word, "^"); ok {
		out.N = number(power)
		return symbolOf(out, word, number)
	}
	return symbolOf(out, word, number)
}

func symbolOf(out api.Step, word string, number func(string) int) api.Step {
	if prefix, atom, ok := strings.Cut(word, ":"); ok {
		out.Prefix, out.Atom = number(prefix), number(atom)
		return out
	}
	out.Atom = number(word)
	return out
}
