package symbol_test

import (
	"fmt"
	"slices"
	"strings"
	"testing"

	"drachm/api"
	"drachm/symbol"
)

// P10.3: all symbols of each notation, in their order, each with what it is; none, if there is no such notation.
func TestAll(t *testing.T) {
	for _, n := range every() {
		got, want := gather(symbol.All(n)), modelOf(n).all
		for i := range min(len(got), len(want)) {
			if got[i] != want[i] {
				t.Errorf("notation %d, %d: %v, want %v", n, i, got[i], want[i])
				break
			}
		}
		if len(got) != len(want) {
			t.Errorf("notation %d: %d symbols, want %d", n, len(got), len(want))
		}
	}
	for n, want := range []int{0, 828, 828, 826, 632, 784, 0} {
		if got := len(gather(symbol.All(n))); got != want {
			t.Errorf("notation %d: %d symbols, want %d", n, got, want)
		}
	}
}

// P10.3: atoms alone come first, with -1 as their prefix; then the first prefix's metric ones; what is found to be something else is not told.
func TestAllWrittenOut(t *testing.T) {
	got := gather(symbol.All(api.Shown))
	for place, want := range map[int]told{
		0: {"m", what{-1, 0}}, 1: {"s", what{-1, 1}}, 30: {"a", what{-1, 30}}, 47: {"dr", what{-1, 47}}, 48: {"Ym", what{0, 0}}, 54: {"Ycd", what{0, 6}}, 55: {"Ymol", what{0, 8}}, 86: {"YeV", what{0, 46}}, 87: {"Zm", what{1, 0}}, 825: {"yeV", what{19, 46}},
	} {
		if place >= len(got) || got[place] != want {
			t.Errorf("%d: not %v", place, want)
		}
	}
	lacking := map[int][]what{3: {{3, 30}, {15, 23}}, 4: {{2, 16}, {15, 15}, {15, 46}}, 5: {{3, 30}}}
	for n := 1; n <= notations; n++ {
		all := gather(symbol.All(n))
		for _, w := range lacking[n] {
			if slices.ContainsFunc(all, func(one told) bool { return one.what == w }) {
				t.Errorf("notation %d: %v is told", n, w)
			}
		}
	}
}

// R1: what is told one by one is never nil, also where it tells nothing.
func TestAllIsNeverNil(t *testing.T) {
	for _, n := range every() {
		if symbol.All(n) == nil {
			t.Errorf("notation %d: nil", n)
		}
	}
}

// R1: left off at each place, and gone over again. Who leaves off is not told of another one.
func TestAllIsLeftOffAnywhere(t *testing.T) {
	for _, n := range every() {
		each, want := symbol.All(n), modelOf(n).all
		for stop := 1; stop <= len(want); stop++ {
			calls, last := 0, told{}
			each(func(text string, term api.Term) bool {
				calls++
				last = told{text, what{term.Exp, term.Atom}}
				return calls != stop
			})
			if calls != stop || last != want[stop-1] {
				t.Fatalf("notation %d, left off at %d: %d told, at last %v", n, stop, calls, last)
			}
		}
		for range 2 {
			if got := gather(each); !slices.Equal(got, want) {
				t.Errorf("notation %d, gone over again: %d told, want %d", n, len(got), len(want))
			}
		}
	}
}

// R1: gone over while it is gone over, and while another one is.
func TestAllInItself(t *testing.T) {
	each, other := symbol.All(4), symbol.All(3)
	var outer []told
	for text, term := range each {
		outer = append(outer, told{text, what{term.Exp, term.Atom}})
		if len(outer)%100 == 1 && (!slices.Equal(gather(each), modelOf(4).all) || !slices.Equal(gather(other), modelOf(3).all)) {
			t.Fatalf("others at %q", text)
		}
	}
	if !slices.Equal(outer, modelOf(4).all) {
		t.Errorf("gone over with others: %d told", len(outer))
	}
}

// P10.4: each symbol is one thing alone: no text is told twice, nothing has two of them, and what is told is found.
func TestWhatIsToldIsFound(t *testing.T) {
	for n := 1; n <= notations; n++ {
		texts, things := map[string]bool{}, map[api.Term]bool{}
		for text, term := range symbol.All(n) {
			if text == "" || texts[text] || things[term] {
				t.Errorf("notation %d: %q, %v is told again", n, text, term)
			}
			texts[text], things[term] = true, true
			prefix, atom, ok := symbol.Find(n, text)
			if prefix != term.Exp || atom != term.Atom || !ok {
				t.Errorf("notation %d: %q is told of %v, and found to be %d %d %v", n, text, term, prefix, atom, ok)
			}
			if !symbol.Told(n, prefix, atom) || symbol.Text(n, prefix, atom) != text {
				t.Errorf("notation %d: %q is found, and not told", n, text)
			}
		}
	}
}

// P10.4: what is told is in All, and found; what is found is told, and in All.
func TestAllIsWhatIsTold(t *testing.T) {
	for n := 0; n <= notations+1; n++ {
		all := map[api.Term]string{}
		for text, term := range symbol.All(n) {
			all[term] = text
		}
		for prefix := -2; prefix <= prefixCount; prefix++ {
			for atom := -1; atom <= atomCount; atom++ {
				text, there := all[api.Term{Atom: atom, Exp: prefix}]
				if symbol.Told(n, prefix, atom) != there || there && symbol.Text(n, prefix, atom) != text {
					t.Errorf("notation %d, prefix %d, atom %d: %q in All, %v", n, prefix, atom, text, there)
				}
				if p, a, ok := symbol.Find(n, symbol.Text(n, prefix, atom)); ok && all[api.Term{Atom: a, Exp: p}] != symbol.Text(n, prefix, atom) {
					t.Errorf("notation %d, prefix %d, atom %d: found, and not in All", n, prefix, atom)
				}
			}
		}
	}
}

// R4: the same calls have the same answers, whatever was asked between.
func TestAskedAgain(t *testing.T) {
	say := func() string {
		var out strings.Builder
		for n := 0; n <= 6; n++ {
			for place := -1; place <= 48; place++ {
				text := symbol.Text(n, place%20, place)
				prefix, atom, ok := symbol.Find(n, text)
				fmt.Fprintln(&out, text, prefix, atom, ok, symbol.Told(n, -1, place))
			}
		}
		return out.String()
	}
	before := say()
	for text, term := range symbol.All(1) {
		if term.Exp == 9 {
			break
		}
		symbol.Find(term.Exp, text)
	}
	if say() != before {
		t.Error("other answers to the same calls")
	}
}
