package tree_test

import (
	"math"
	"slices"
	"testing"

	"drachm/api"
	"drachm/tree"
)

// placed is a symbol that was told, with its place.
type placed struct {
	place int
	step  api.Step
}

func symbolsOf(steps []api.Step) []placed {
	var out []placed
	for place, x := range tree.Symbols(steps) {
		out = append(out, placed{place, x})
	}
	return out
}

// P9.3: symbols and notes of trees, written out.
func TestToldOfTrees(t *testing.T) {
	steps := []api.Step{sym(7, 2, 1), inv, sym(-1, 0, -2), note("b a"), num(3), div, note(""), alone("c"), mul, sym(-1, 47, 0), mul, mul, note("b a")}
	if !tree.Sound(steps) {
		t.Error("it is no tree")
	}
	if got, want := symbolsOf(steps), []placed{{0, sym(7, 2, 1)}, {2, sym(-1, 0, -2)}, {9, sym(-1, 47, 0)}}; !slices.Equal(got, want) {
		t.Errorf("Symbols: %v, want %v", got, want)
	}
	if got, want := slices.Collect(tree.Notes(steps)), []string{"b a", "", "c", "b a"}; !slices.Equal(got, want) {
		t.Errorf("Notes: %q, want %q", got, want)
	}
	if got := symbolsOf(row("12.@'!")); len(got) != 0 {
		t.Errorf("Symbols, where there are none: %v", got)
	}
	if got := slices.Collect(tree.Notes(row("ab.3/!"))); len(got) != 0 {
		t.Errorf("Notes, where there are none: %v", got)
	}
}

// P9.3: of any steps: those that are no tree, or may not be, as they stand there.
func TestToldOfAnySteps(t *testing.T) {
	wrongSymbols := []api.Step{
		{Op: opSym}, {Op: opSym, Prefix: -2, Atom: 48, N: 100, Num: 7, Text: "\xff"}, {Op: opSym, Prefix: math.MinInt, Atom: math.MaxInt, N: math.MinInt, Num: math.MinInt64},
		sym(0, 7, 1), sym(-1, -1, 1), sym(20, 0, -100),
	}
	wrongNotes := []api.Step{note("\x00"), {Op: opNote, Atom: 3, N: 4, Num: -5, Text: "\u00b5"}, alone("\xff"), {Op: opAlone, Prefix: 9, Text: "{"}, {Op: opNote}}
	wrongOthers := []api.Step{
		{}, {Op: -1, Text: "x"}, {Op: 8, Text: "x"}, {Op: 0, Prefix: 1, Atom: 1, N: 1}, {Op: 1<<32 + 2}, {Op: 1<<32 + 6, Text: "x"}, {Op: 258}, {Op: 262, Text: "x"}, {Op: math.MinInt + 2},
		{Op: opNum, Text: "x", Atom: 2}, {Op: opMul, Text: "x"}, {Op: opDiv, N: 1}, {Op: opInv, Text: "y", Prefix: 3},
	}
	for _, steps := range [][]api.Step{
		wrongSymbols, wrongNotes, wrongOthers,
		slices.Concat(wrongOthers, wrongSymbols, wrongNotes, wrongSymbols, wrongOthers),
		slices.Concat(wrongNotes, row("ab..!'@"), wrongSymbols, row("'.@c")),
		row("abc"), row("@@''"), row(".a'"),
	} {
		toldHolds(t, steps)
	}
	if got := symbolsOf(wrongSymbols); len(got) != len(wrongSymbols) {
		t.Errorf("Symbols: %d, want %d", len(got), len(wrongSymbols))
	}
	if got := slices.Collect(tree.Notes(wrongNotes)); !slices.Equal(got, []string{"\x00", "\u00b5", "\xff", "{", ""}) {
		t.Errorf("Notes: %q", got)
	}
	if len(symbolsOf(wrongOthers)) != 0 || len(slices.Collect(tree.Notes(wrongOthers))) != 0 {
		t.Error("something is told of steps that are neither")
	}
}

// leftOffRows are steps with symbols and notes at the beginning, in the middle and at the end; trees, and none.
func leftOffRows() [][]api.Step {
	return [][]api.Step{nil, row("a"), row("@"), row("ab.c'/@!."), row("ab"), row("@'a'@b"), row("12..!"), rightDeep(301), slices.Repeat(row("@'"), 150)}
}

// R1: symbols may be left off at each place, and gone over again, also while they are gone over.
func TestSymbolsLeftOff(t *testing.T) {
	for _, steps := range leftOffRows() {
		want := symbolsOf(steps)
		each := tree.Symbols(steps)
		if each == nil {
			t.Fatal("Symbols is nil")
		}
		for stop := range len(want) + 1 {
			var got []placed
			for place, x := range each {
				got = append(got, placed{place, x})
				if len(got) > stop {
					break
				}
			}
			if !slices.Equal(got, want[:min(stop+1, len(want))]) {
				t.Errorf("%v, left off behind %d: %d told", brief(steps), stop, len(got))
			}
		}
		for range 2 {
			var got []placed
			for place, x := range each {
				got = append(got, placed{place, x})
				for inner, y := range each {
					if (placed{inner, y}) != want[0] {
						t.Errorf("%v, gone over within itself: %d, %v", brief(steps), inner, y)
					}
					break
				}
			}
			if !slices.Equal(got, want) {
				t.Errorf("%v, gone over again: %d told, want %d", brief(steps), len(got), len(want))
			}
		}
	}
}

// R1: notes, likewise.
func TestNotesLeftOff(t *testing.T) {
	for _, steps := range leftOffRows() {
		for i := range steps {
			if steps[i].Op == opNote || steps[i].Op == opAlone {
				steps[i].Text = string([]byte{byte(' ' + i%90), byte(' ' + i/90)})
			}
		}
		want := slices.Collect(tree.Notes(steps))
		each := tree.Notes(steps)
		if each == nil {
			t.Fatal("Notes is nil")
		}
		for stop := range len(want) + 1 {
			var got []string
			for text := range each {
				got = append(got, text)
				if len(got) > stop {
					break
				}
			}
			if !slices.Equal(got, want[:min(stop+1, len(want))]) {
				t.Errorf("%v, left off behind %d: %q", brief(steps), stop, got)
			}
		}
		for range 2 {
			var got []string
			for text := range each {
				got = append(got, text)
				for inner := range each {
					if inner != want[0] {
						t.Errorf("%v, gone over within itself: %q", brief(steps), inner)
					}
					break
				}
			}
			if !slices.Equal(got, want) {
				t.Errorf("%v, gone over again: %q, want %q", brief(steps), got, want)
			}
		}
	}
}

// R1: who leaves off is not told of another one.
func TestToldStops(t *testing.T) {
	steps := row("ab'.@c'.d@")
	for stop := 1; stop <= 4; stop++ {
		calls := 0
		tree.Symbols(steps)(func(int, api.Step) bool {
			calls++
			return calls < stop
		})
		if calls != stop {
			t.Errorf("Symbols: told %d times, want %d", calls, stop)
		}
		calls = 0
		tree.Notes(steps)(func(string) bool {
			calls++
			return calls < stop
		})
		if calls != stop {
			t.Errorf("Notes: told %d times, want %d", calls, stop)
		}
	}
}

// R3: what is told does not hang on what became of the steps since; what a caller does with a step that was told changes none.
func TestToldIsTheCallers(t *testing.T) {
	steps := row("ab'.@c'.d@")
	symbols, notes := tree.Symbols(steps), tree.Notes(steps)
	wantNotes := slices.Collect(notes)
	var want []placed
	for place, x := range symbols {
		want = append(want, placed{place, x})
		x.Op, x.Text = -1, "spoilt"
	}
	if len(want) != 4 || len(wantNotes) != 4 {
		t.Errorf("%d and %d told, want 4 and 4", len(want), len(wantNotes))
	}
	spoil(steps)
	var got []placed
	for place, x := range symbols {
		got = append(got, placed{place, x})
	}
	if !slices.Equal(got, want) || !slices.Equal(slices.Collect(notes), wantNotes) {
		t.Errorf("told afterwards: %v, want %v", got, want)
	}
}
