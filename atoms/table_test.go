package atoms_test

import (
	"fmt"
	"strconv"
	"strings"
	"testing"

	"drachm/api"
	"drachm/atoms"
)

// cells are the rows of a table as the document writes it.
func cells(table string) [][]string {
	var out [][]string
	for _, line := range strings.Split(strings.TrimSpace(table), "\n") {
		out = append(out, strings.Split(line, "|"))
	}
	return out
}

func number(t *testing.T, s string) int {
	t.Helper()
	n, err := strconv.Atoi(s)
	if err != nil {
		t.Fatal(err)
	}
	return n
}

// worthOf puts what a cell says of a worth into an atom.
func worthOf(t *testing.T, cell string) api.Atom {
	t.Helper()
	a := api.Atom{Base: -1, Num: 1, Den: 1}
	words := strings.Fields(cell)
	if words[0] == "base" {
		a.Base = number(t, words[1])
		return a
	}
	num, den, has := strings.Cut(words[0], "/")
	a.Num = int64(number(t, num))
	if has {
		a.Den = int64(number(t, den))
	}
	for _, word := range words[1:] {
		if ten, is := strings.CutPrefix(word, "e"); is {
			a.Ten = number(t, ten)
			continue
		}
		place, power, _ := strings.Cut(word, "^")
		a.Terms = append(a.Terms, api.Term{Atom: number(t, place), Exp: number(t, power)})
	}
	return a
}

func same(t *testing.T, place int, cell string, got, want any) {
	t.Helper()
	if g, w := fmt.Sprintf("%#v", got), fmt.Sprintf("%#v", want); g != w {
		t.Errorf("row %d, %s: %s, want %s", place, cell, g, w)
	}
}

// P5.1: every cell of every atom, in its place.
func TestAtomsOfTheTable(t *testing.T) {
	rows, told := cells(atomRows), atoms.Table().Atoms
	if len(rows) != 48 || len(told) != 48 {
		t.Fatalf("%d atoms, and %d rows of the document", len(told), len(rows))
	}
	for place, row := range rows {
		got, want := told[place], worthOf(t, row[8])
		same(t, place, "place", place, number(t, row[0]))
		for n := range api.Notations {
			same(t, place, "code "+strconv.Itoa(n+1), got.Codes[n], row[1+n])
		}
		same(t, place, "Metric", got.Metric, row[6] == "yes")
		same(t, place, "Tag", got.Tag, number(t, row[7]))
		same(t, place, "Base", got.Base, want.Base)
		same(t, place, "Num", got.Num, want.Num)
		same(t, place, "Den", got.Den, want.Den)
		same(t, place, "Ten", got.Ten, want.Ten)
		same(t, place, "Terms", append([]api.Term{}, got.Terms...), append([]api.Term{}, want.Terms...))
	}
}

// P5.1: every cell of every prefix, in its place.
func TestPrefixesOfTheTable(t *testing.T) {
	rows, told := cells(prefixRows), atoms.Table().Prefixes
	if len(rows) != 20 || len(told) != 20 {
		t.Fatalf("%d prefixes, and %d rows of the document", len(told), len(rows))
	}
	for place, row := range rows {
		same(t, place, "place", place, number(t, row[0]))
		for n := range api.Notations {
			same(t, place, "code "+strconv.Itoa(n+1), told[place].Codes[n], row[1+n])
		}
		same(t, place, "Ten", told[place].Ten, number(t, row[6]))
	}
}

// P5.1: some rows written out by hand, as the words above the table ask for them.
func TestRowsByHand(t *testing.T) {
	told := atoms.Table()
	for place, want := range map[int]api.Atom{
		6:  {Codes: [5]string{"cd", "CD", "cd", "CD", "cd"}, Metric: true, Base: 6, Num: 1, Den: 1},
		7:  {Codes: [5]string{"%", "%", "%", "", "%"}, Base: -1, Num: 1, Den: 1, Ten: -2},
		21: {Codes: [5]string{"Cel", "CEL", "[oC]", "CEL", ""}, Metric: true, Tag: 1, Base: -1, Num: 1, Den: 1, Terms: []api.Term{{Atom: 4, Exp: 1}}},
		40: {Codes: [5]string{"B", "B", "B", "", ""}, Metric: true, Tag: 3, Base: -1, Num: 1, Den: 1},
		45: {Codes: [5]string{"u", "AMU", "u", "U", "u"}, Metric: true, Base: -1, Num: 16605390666, Den: 1, Ten: -34, Terms: []api.Term{{Atom: 2, Exp: 1}}},
		47: {Codes: [5]string{"[dr_av]", "[DR_AV]", "dr", "", "dr"}, Base: -1, Num: 1, Den: 256, Terms: []api.Term{{Atom: 38, Exp: 1}}},
	} {
		if got := told.Atoms[place]; fmt.Sprint(got) != fmt.Sprint(want) {
			t.Errorf("atom %d: %v, want %v", place, got, want)
		}
	}
	for place, want := range map[int]api.Prefix{
		0:  {Codes: [5]string{"Y", "YA", "Y", "", "Y"}, Ten: 24},
		9:  {Codes: [5]string{"da", "DA", "da", "DA", "da"}, Ten: 1},
		19: {Codes: [5]string{"y", "YO", "y", "", "y"}, Ten: -24},
	} {
		if got := told.Prefixes[place]; got != want {
			t.Errorf("prefix %d: %v, want %v", place, got, want)
		}
	}
}

// P5.4: the table is right, and so is each beginning of it.
func TestTableIsRight(t *testing.T) {
	for n := range 49 {
		for m := range 21 {
			x := atoms.Table()
			x.Atoms, x.Prefixes = x.Atoms[:n], x.Prefixes[:m]
			if got := atoms.Check(x); got != -1 {
				t.Fatalf("%d atoms and %d prefixes of the table: %d", n, m, got)
			}
		}
	}
}

// spoil changes all of a table that can be changed.
func spoil(x api.Table) {
	for i := range x.Atoms {
		for j := range x.Atoms[i].Terms {
			x.Atoms[i].Terms[j] = api.Term{Atom: -7, Exp: 77}
		}
		_ = append(x.Atoms[i].Terms, api.Term{Atom: -8, Exp: 88})
		x.Atoms[i] = api.Atom{Tag: -9}
	}
	for i := range x.Prefixes {
		x.Prefixes[i] = api.Prefix{Ten: 99}
	}
}

// R3: a table that was told and is then changed changes none that is told later, or was told ahead of it.
func TestTablesAreTheCallers(t *testing.T) {
	first, second := atoms.Table(), atoms.Table()
	before := fmt.Sprint(first)
	spoil(second)
	if fmt.Sprint(first) != before || fmt.Sprint(atoms.Table()) != before {
		t.Error("a table that was changed has changed another one")
	}
}

// R3: no two rows of one table share their terms, nor what lies behind them.
func TestTermsAreTheRowsOwn(t *testing.T) {
	for place := range atoms.Table().Atoms {
		x, want := atoms.Table(), atoms.Table()
		terms := x.Atoms[place].Terms
		for j := range terms[:cap(terms)] {
			terms[:cap(terms)][j] = api.Term{Atom: -7, Exp: 77}
		}
		x.Atoms[place].Terms = want.Atoms[place].Terms
		if fmt.Sprint(x) != fmt.Sprint(want) {
			t.Errorf("the terms of atom %d are those of another one, too", place)
		}
	}
}
