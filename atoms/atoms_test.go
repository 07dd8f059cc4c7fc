package atoms_test

import (
	"fmt"
	"iter"
	"math"
	"slices"
	"strconv"
	"strings"
	"testing"

	"drachm/api"
	"drachm/atoms"
)

const least = math.MinInt64

// named are codes in all notations, without small letters, another one for each n up to 17575.
func named(n int) [api.Notations]string {
	code := string([]byte{byte('A' + n/676%26), byte('A' + n/26%26), byte('A' + n%26)})
	return [api.Notations]string{code, code, code, code, code}
}

// plain is a right atom: a number, times terms.
func plain(n int, terms ...api.Term) api.Atom {
	return api.Atom{Codes: named(n), Base: -1, Num: 3, Den: 1, Terms: terms}
}

func base(n, which int) api.Atom {
	return api.Atom{Codes: named(n), Metric: true, Base: which, Num: 1, Den: 1}
}

func prefix(n, ten int) api.Prefix { return api.Prefix{Codes: named(n), Ten: ten} }

func term(atom, exp int) api.Term { return api.Term{Atom: atom, Exp: exp} }

// rows is a right table of so many atoms and prefixes, whose codes are the same.
func rows(atomCount, prefixCount int) api.Table {
	var t api.Table
	for n := range atomCount {
		t.Atoms = append(t.Atoms, plain(n))
	}
	for n := range prefixCount {
		t.Prefixes = append(t.Prefixes, prefix(n, n%61-30))
	}
	return t
}

func check(t *testing.T, x api.Table, want int, what string, args ...any) {
	t.Helper()
	if got := atoms.Check(x); got != want {
		t.Errorf("%s: %d, want %d", fmt.Sprintf(what, args...), got, want)
	}
}

// atomIs asks whether an atom is right at the place 5, behind right ones, of which the place 3 has a tag, and ahead of one more.
func atomIs(t *testing.T, right bool, a api.Atom, what string, args ...any) {
	t.Helper()
	x := rows(7, 3)
	x.Atoms[3].Tag = 4
	x.Atoms[5] = a
	check(t, x, pick(right, -1, 5), what, args...)
}

// prefixIs asks likewise of a prefix at the place 2, which is 9 in such a table.
func prefixIs(t *testing.T, right bool, p api.Prefix, what string, args ...any) {
	t.Helper()
	x := rows(7, 4)
	x.Prefixes[2] = p
	check(t, x, pick(right, -1, 9), what, args...)
}

func pick(is bool, one, other int) int {
	if is {
		return one
	}
	return other
}

// codesAre asks whether codes are right for an atom, and for a prefix.
func codesAre(t *testing.T, right bool, codes [api.Notations]string, what string, args ...any) {
	t.Helper()
	a, p := plain(5), prefix(2, 1)
	a.Codes, p.Codes = codes, codes
	atomIs(t, right, a, "atom: "+what, args...)
	prefixIs(t, right, p, "prefix: "+what, args...)
}

// with are right codes, but for that one of a notation, from 1 on.
func with(notation int, code string) [api.Notations]string {
	codes := named(700)
	codes[notation-1] = code
	return codes
}

// P5.2: the document's examples.
func TestExamples(t *testing.T) {
	x := atoms.Table()
	check(t, x, -1, "the table")
	x.Atoms[1].Codes[0] = "m"
	check(t, x, 1, "the code m for atom 1, too")
}

// P5.2: a table without rows is right.
func TestEmptyTables(t *testing.T) {
	check(t, api.Table{}, -1, "nothing")
	check(t, api.Table{Atoms: []api.Atom{}, Prefixes: []api.Prefix{}}, -1, "empty rows")
	check(t, rows(3, 0), -1, "no prefixes")
	check(t, rows(0, 3), -1, "no atoms")
	check(t, api.Table{Atoms: make([]api.Atom, 1)}, 0, "an atom with nothing in it")
	check(t, api.Table{Prefixes: make([]api.Prefix, 1)}, 0, "a prefix with nothing in it, and no atoms")
}

// P5.2: as many rows as may be, and one more, right ones and not.
func TestHowManyRows(t *testing.T) {
	for _, c := range []struct{ atoms, prefixes, want int }{
		{99, 29, -1}, {100, 30, -1}, {100, 0, -1}, {0, 30, -1}, {1, 30, -1}, {100, 1, -1},
		{101, 0, 101}, {101, 30, 131}, {0, 31, 31}, {1, 31, 32}, {100, 31, 131}, {101, 31, 132}, {5000, 2000, 7000},
	} {
		check(t, rows(c.atoms, c.prefixes), c.want, "%d atoms, %d prefixes", c.atoms, c.prefixes)
	}
	for _, c := range []struct{ atoms, prefixes, want int }{
		{100, 30, 0}, {0, 30, 0}, {101, 0, 101}, {101, 31, 132}, {0, 31, 31}, {50, 31, 81},
	} {
		wrong := api.Table{Atoms: make([]api.Atom, c.atoms), Prefixes: make([]api.Prefix, c.prefixes)}
		check(t, wrong, c.want, "%d atoms and %d prefixes that are not right", c.atoms, c.prefixes)
	}
	x := rows(100, 30)
	x.Prefixes[29].Ten = 31
	check(t, x, 129, "the last prefix that may be")
	x.Atoms[99].Tag = 100
	check(t, x, 99, "the last atom that may be")
}

// P5.2: each byte, in each notation, alone and between others.
func TestLettersOfCodes(t *testing.T) {
	for b := range 256 {
		small := 'a' <= b && b <= 'z'
		letter := small || 'A' <= b && b <= 'Z' || b < 128 && strings.Contains("%'_[]", string(rune(b)))
		for n := 1; n <= api.Notations; n++ {
			right := letter && !(small && (n == 2 || n == 4))
			one := string([]byte{byte(b)})
			for _, code := range []string{one, one + "B", "B" + one, "B" + one + "B", "BBBBBBB" + one, one + "BBBBBBB"} {
				codesAre(t, right, with(n, code), "%q in notation %d", code, n)
			}
		}
	}
	codesAre(t, false, with(1, "µ"), "a letter beyond ASCII")
	codesAre(t, false, with(3, "Å"), "a letter beyond ASCII")
}

// P5.2: codes of 0, 1, 8 and 9 letters, and of many, in each notation; in the first one there must be one.
func TestLengthsOfCodes(t *testing.T) {
	for n := 1; n <= api.Notations; n++ {
		for length := range 20 {
			right := length <= 8 && (length > 0 || n != 1)
			codesAre(t, right, with(n, strings.Repeat("Q", length)), "%d letters in notation %d", length, n)
		}
		for _, length := range []int{255, 256, 257, 264, 1 << 16, 1<<16 + 3} {
			codesAre(t, false, with(n, strings.Repeat("Q", length)), "%d letters in notation %d", length, n)
		}
	}
	codesAre(t, true, [api.Notations]string{"QQQ"}, "one code alone")
	codesAre(t, false, [api.Notations]string{}, "no code")
	codesAre(t, false, [api.Notations]string{"", "QQQ", "QQQ", "QQQ", "QQQ"}, "all codes but the first")
}

// P5.2: one code twice, in one notation and in two.
func TestCodesThatWereThere(t *testing.T) {
	for n := 1; n <= api.Notations; n++ {
		for m := 1; m <= api.Notations; m++ {
			for _, ahead := range []int{0, 3, 4, 5, 6} {
				x := rows(7, 7)
				x.Atoms[ahead].Codes[n-1] = "QQ"
				x.Atoms[5].Codes[m-1] = "QQ"
				want := pick(n == m && ahead != 5, max(ahead, 5), -1)
				check(t, x, want, "an atom's code in the notations %d and %d, at %d", n, m, ahead)
				x = rows(7, 7)
				x.Prefixes[ahead].Codes[n-1] = "QQ"
				x.Prefixes[5].Codes[m-1] = "QQ"
				want = pick(n == m && ahead != 5, 7+max(ahead, 5), -1)
				check(t, x, want, "a prefix's code in the notations %d and %d, at %d", n, m, ahead)
			}
		}
	}
}

// P5.2: only codes that are wholly the same are the same.
func TestCodesThatAreNearOthers(t *testing.T) {
	codes := []string{"a", "A", "aa", "aA", "Aa", "AA", "a_", "_a", "a'", "a[", "a]", "a%", "aaa", "aaaaaaa", "aaaaaaaa", "aaaaaaaA", "Aaaaaaaa"}
	var x api.Table
	for n, code := range codes {
		a, p := plain(n), prefix(n, 0)
		a.Codes = [api.Notations]string{code, "", code, "", code}
		p.Codes = a.Codes
		x.Atoms, x.Prefixes = append(x.Atoms, a), append(x.Prefixes, p)
	}
	check(t, x, -1, "codes that are near others")
	for n := range codes {
		for _, notation := range []int{0, 2, 4} {
			y := api.Table{Atoms: slices.Clone(x.Atoms), Prefixes: x.Prefixes}
			y.Atoms = append(y.Atoms, plain(900))
			y.Atoms[len(codes)].Codes[notation] = codes[n]
			check(t, y, len(codes), "%q once more, in notation %d", codes[n], notation+1)
		}
	}
}

// P5.2: empty codes are the same, and may be; an atom's code may be a prefix's.
func TestCodesThatMayBeThere(t *testing.T) {
	x := rows(20, 20)
	for n := range 20 {
		for notation := 1; notation < api.Notations; notation++ {
			x.Atoms[n].Codes[notation], x.Prefixes[n].Codes[notation] = "", ""
		}
		if x.Atoms[n].Codes != x.Prefixes[n].Codes {
			t.Fatal("the codes are not the same")
		}
	}
	check(t, x, -1, "empty codes, and codes of atoms that prefixes have")
}

// P5.2: tags at the edges; a base has none.
func TestTagsOfAtoms(t *testing.T) {
	for _, tag := range []int{-1, 0, 1, 50, 98, 99, 100, -99, -100, 256, 1 << 32, math.MaxInt, math.MinInt} {
		a := plain(5, term(0, 1))
		a.Tag = tag
		atomIs(t, tag >= 0 && tag <= 99, a, "a tag of %d", tag)
		a = base(5, 0)
		a.Tag = tag
		atomIs(t, tag == 0, a, "a base with a tag of %d", tag)
	}
}

// P5.2: numbers of bases at the edges; what is no base is -1.
func TestBasesOfAtoms(t *testing.T) {
	for _, which := range []int{-3, -2, -1, 0, 1, 2, 3, 4, 5, 6, 7, 8, 255, 256, 1 << 32, math.MaxInt, math.MinInt} {
		atomIs(t, which >= -1 && which <= 6, base(5, which), "the base %d", which)
		a := plain(5, term(0, 1))
		a.Base = which
		atomIs(t, which == -1, a, "the base %d, with a number and a term", which)
	}
}

// P5.2: what a base may not have, one by one.
func TestBasesHaveNothingElse(t *testing.T) {
	for which := range 7 {
		for what, change := range map[string]func(a *api.Atom){
			"Num 2":       func(a *api.Atom) { a.Num = 2 },
			"Num 0":       func(a *api.Atom) { a.Num = 0 },
			"Num -1":      func(a *api.Atom) { a.Num = -1 },
			"Den 2":       func(a *api.Atom) { a.Den = 2 },
			"Den 0":       func(a *api.Atom) { a.Den = 0 },
			"Num, Den -1": func(a *api.Atom) { a.Num, a.Den = -1, -1 },
			"Num, Den 2":  func(a *api.Atom) { a.Num, a.Den = 2, 2 },
			"Ten 1":       func(a *api.Atom) { a.Ten = 1 },
			"Ten -1":      func(a *api.Atom) { a.Ten = -1 },
			"10 e-1":      func(a *api.Atom) { a.Num, a.Ten = 10, -1 },
			"Tag 1":       func(a *api.Atom) { a.Tag = 1 },
			"a term":      func(a *api.Atom) { a.Terms = []api.Term{term(0, 1)} },
			"Tag -1":      func(a *api.Atom) { a.Tag = -1 },
			"no codes":    func(a *api.Atom) { a.Codes = [api.Notations]string{} },
		} {
			a := base(5, which)
			change(&a)
			atomIs(t, false, a, "the base %d with %s", which, what)
		}
		a := base(5, which)
		a.Terms, a.Metric = []api.Term{}, false
		atomIs(t, true, a, "the base %d with an empty row of terms, not metric", which)
	}
	x := rows(0, 0)
	for n := range 10 {
		x.Atoms = append(x.Atoms, base(n, 3))
	}
	check(t, x, -1, "one base, of ten atoms")
}

// P5.2: numbers that are 0, or none, or that are not in their form yet.
func TestNumbersOfAtoms(t *testing.T) {
	for _, c := range []struct {
		num, den int64
		ten      int
		right    bool
	}{
		{1, 1, 0, true}, {-1, 1, 0, true}, {1, -1, 0, true}, {-4, -6, 0, true}, {10, 1, 0, true}, {3, 8, 5, true}, {20, 30, -1, true},
		{api.MaxWhole, 1, 0, true}, {-api.MaxWhole, api.MaxWhole, 0, true}, {1, api.MaxWhole, 0, true},
		{1, 1, 1000, true}, {1, 1, -1000, true}, {100, 1, 998, true}, {1, 10, 1001, true}, {10, 1, -1001, true},
		{0, 1, 0, false}, {0, -5, 0, false}, {0, 1, 5, false}, {0, 1, 5000, false}, {1, 0, 0, false}, {0, 0, 0, false},
		{least, 1, 0, false}, {1, least, 0, false}, {least, least, 0, false},
		{1, 1, 1001, false}, {1, 1, -1001, false}, {10, 1, 1000, false}, {1, 10, -1000, false},
		{1, 1, math.MaxInt, false}, {1, 1, math.MinInt, false}, {1, 1 << 62, 0, false}, {api.MaxWhole, 8, 0, false},
	} {
		a := plain(5, term(0, -1))
		a.Num, a.Den, a.Ten = c.num, c.den, c.ten
		atomIs(t, c.right, a, "%d by %d e%d", c.num, c.den, c.ten)
		a.Terms, a.Tag = nil, 1
		atomIs(t, c.right, a, "%d by %d e%d, without terms, with a tag", c.num, c.den, c.ten)
	}
}

// P5.2: 9 terms, and one more.
func TestHowManyTerms(t *testing.T) {
	for count := range 30 {
		var terms []api.Term
		for n := range count {
			terms = append(terms, term(n%3, n%9-9))
		}
		atomIs(t, count <= 9, plain(5, terms...), "%d terms", count)
	}
	atomIs(t, false, plain(5, slices.Repeat([]api.Term{term(0, 1)}, 1<<16)...), "many terms")
	atomIs(t, true, plain(5, slices.Repeat([]api.Term{term(0, 9)}, 9)...), "one term, 9 times")
}

// P5.2: terms of atoms ahead, of the atom itself, of those behind it, and of none; at each place of a row of terms.
func TestWhatTermsAreOf(t *testing.T) {
	for _, of := range []int{0, 1, 2, 3, 4, 5, 6, 7, 8, 9, 10, -1, -2, -5, 99, 100, 255, 256, 1 << 32, math.MaxInt, math.MinInt} {
		right := of >= 0 && of < 5 && of != 3 // 3 has a tag
		for at := range 9 {
			terms := slices.Repeat([]api.Term{term(1, 2)}, 9)
			terms[at].Atom = of
			atomIs(t, right, plain(5, terms...), "a term of %d, at %d", of, at)
		}
	}
	x := rows(3, 0)
	x.Atoms[0].Terms = []api.Term{term(0, 1)}
	check(t, x, 0, "the first atom has none ahead of it")
}

// P5.2: a special atom may have terms, but be none, whatever its tag is.
func TestTermsOfSpecialAtoms(t *testing.T) {
	for _, tag := range []int{0, 1, 2, 50, 99} {
		x := rows(2, 0)
		x.Atoms[1].Tag = tag
		x.Atoms[1].Terms = []api.Term{term(0, 1)}
		check(t, x, -1, "a special atom with a term")
		x.Atoms = append(x.Atoms, plain(2, term(0, 1), term(1, 1)))
		check(t, x, pick(tag == 0, -1, 2), "a term of an atom with the tag %d", tag)
		x.Atoms[2].Tag = 99
		check(t, x, pick(tag == 0, -1, 2), "a special one with a term of an atom with the tag %d", tag)
	}
}

// P5.2: powers of terms at the edges, at each place of a row of terms.
func TestPowersOfTerms(t *testing.T) {
	for _, power := range []int{-11, -10, -9, -8, -1, 0, 1, 8, 9, 10, 11, 99, -99, 256, 1 << 32, math.MaxInt, math.MinInt} {
		right := power >= -9 && power <= 9 && power != 0
		for at := range 9 {
			terms := slices.Repeat([]api.Term{term(1, 2)}, 9)
			terms[at].Exp = power
			atomIs(t, right, plain(5, terms...), "a power of %d, at %d", power, at)
		}
	}
}

// P5.2: powers of ten of prefixes at the edges.
func TestTensOfPrefixes(t *testing.T) {
	for _, ten := range []int{-32, -31, -30, -29, -1, 0, 1, 29, 30, 31, 32, 99, 1000, 256, 1 << 32, math.MaxInt, math.MinInt} {
		prefixIs(t, ten >= -30 && ten <= 30, prefix(2, ten), "ten to the power of %d", ten)
	}
	check(t, api.Table{Prefixes: []api.Prefix{prefix(0, 3), prefix(1, 3)}}, -1, "one power of two prefixes")
}

// wrongAtoms are not right, each for a reason of its own.
func wrongAtoms() []api.Atom {
	out := make([]api.Atom, 9)
	for n := range out {
		out[n] = plain(800 + n)
	}
	out[0].Codes[0] = ""
	out[1].Codes[1] = "q"
	out[2].Codes[4] = "QQQQQQQQQ"
	out[3].Tag = 100
	out[4].Base = 7
	out[5].Den = 0
	out[6].Num = 0
	out[7].Terms = make([]api.Term, 10)
	out[8].Terms = []api.Term{term(0, 10)}
	return out
}

// P5.2: of several rows that are not right the first one is told, atoms ahead of prefixes.
func TestSeveralWrongRows(t *testing.T) {
	for _, one := range wrongAtoms() {
		for _, other := range wrongAtoms() {
			for first := range 6 {
				for second := first + 1; second < 7; second++ {
					x := rows(7, 3)
					x.Atoms[first], x.Atoms[second] = one, other
					check(t, x, first, "%v at %d and %v at %d", one, first, other, second)
					x.Prefixes[0].Ten = 31
					check(t, x, first, "and a prefix")
				}
			}
		}
	}
	x := rows(7, 5)
	x.Prefixes[4].Ten = -31
	check(t, x, 11, "the last prefix")
	x.Prefixes[3].Codes[0] = ""
	check(t, x, 10, "and the one ahead of it")
	x.Prefixes[1].Codes = x.Prefixes[0].Codes
	check(t, x, 8, "and one whose code was there")
	x.Prefixes[0].Codes[3] = "q"
	check(t, x, 7, "and the first prefix")
	x.Atoms[6].Tag = -1
	check(t, x, 6, "and the last atom")
	x.Atoms[0].Tag = -1
	check(t, x, 0, "and the first atom")
}

// P5.2: an atom that is not right in all ways at once.
func TestWrongInEveryWay(t *testing.T) {
	a := api.Atom{Codes: [api.Notations]string{"", "q", " ", "x", "\xff"}, Tag: -1, Base: 7, Num: least, Den: 0, Ten: math.MaxInt, Terms: slices.Repeat([]api.Term{term(-1, 0)}, 50)}
	atomIs(t, false, a, "all at once")
	prefixIs(t, false, api.Prefix{Codes: a.Codes, Ten: math.MinInt}, "all at once")
}

// P5.2, P5.4: one cell of the table changed, at each place.
func TestTableWithOneCellChanged(t *testing.T) {
	for place := range atoms.Table().Atoms {
		for what, change := range map[string]func(a *api.Atom){
			"no code":    func(a *api.Atom) { a.Codes[0] = "" },
			"small":      func(a *api.Atom) { a.Codes[1] = "qqq" },
			"small, too": func(a *api.Atom) { a.Codes[3] = "QQq" },
			"a blank":    func(a *api.Atom) { a.Codes[2] = "QQ " },
			"a digit":    func(a *api.Atom) { a.Codes[4] = "Q2" },
			"Tag":        func(a *api.Atom) { a.Tag = 100 },
			"Base":       func(a *api.Atom) { a.Base = -2 },
			"Num":        func(a *api.Atom) { a.Num = 0 },
			"Den":        func(a *api.Atom) { a.Den = 0 },
			"Ten":        func(a *api.Atom) { a.Ten = 1001 + 15 },
			"Terms":      func(a *api.Atom) { a.Terms = append(a.Terms, term(place, 1)) },
		} {
			x := atoms.Table()
			change(&x.Atoms[place])
			check(t, x, place, "%s of atom %d", what, place)
		}
	}
	for place := range atoms.Table().Prefixes {
		for n := range api.Notations {
			x := atoms.Table()
			x.Prefixes[place].Codes[n] = "Q."
			check(t, x, 48+place, "the code %d of prefix %d", n+1, place)
		}
		x := atoms.Table()
		x.Prefixes[place].Codes[0] = ""
		check(t, x, 48+place, "no code of prefix %d", place)
	}
}

type told struct {
	place int
	atom  string
}

func gather(each iter.Seq2[int, api.Atom]) []told {
	var out []told
	for place, atom := range each {
		out = append(out, told{place, fmt.Sprintf("%#v", atom)})
	}
	return out
}

// wanted is what Each has to tell of a table.
func wanted(x api.Table) []told {
	var out []told
	for place, atom := range x.Atoms {
		out = append(out, told{place, fmt.Sprintf("%#v", atom)})
	}
	return out
}

// tables are right and wrong ones, small and greater than may be.
func tables() []api.Table {
	wrong := rows(12, 2)
	copy(wrong.Atoms[2:], wrongAtoms())
	return []api.Table{
		{}, {Atoms: []api.Atom{}}, {Prefixes: make([]api.Prefix, 3)}, rows(1, 0), rows(100, 30), rows(101, 31), rows(1000, 0),
		atoms.Table(), wrong, {Atoms: make([]api.Atom, 150)}, {Atoms: []api.Atom{{Terms: []api.Term{}}, {Terms: slices.Repeat([]api.Term{term(-9, 99)}, 300)}}},
	}
}

// P5.3: the atoms, by rising places, of any table.
func TestEach(t *testing.T) {
	for n, x := range tables() {
		if got, want := gather(atoms.Each(x)), wanted(x); !slices.Equal(got, want) {
			t.Errorf("table %d: %v, want %v", n, got, want)
		}
	}
}

// R1: what is told one by one is never nil, also where it tells nothing.
func TestEachIsNeverNil(t *testing.T) {
	for n, x := range tables() {
		if atoms.Each(x) == nil {
			t.Errorf("table %d: nil", n)
		}
	}
}

// R1: left off at each place, and gone over again.
func TestEachIsLeftOffAnywhere(t *testing.T) {
	for n, x := range tables() {
		each, all := atoms.Each(x), wanted(x)
		for stop := 1; stop <= min(len(all), 150); stop++ {
			var got []told
			each(func(place int, atom api.Atom) bool {
				got = append(got, told{place, fmt.Sprintf("%#v", atom)})
				return len(got) != stop
			})
			if !slices.Equal(got, all[:stop]) {
				t.Fatalf("table %d, left off at %d: %v", n, stop, got)
			}
		}
		if got := gather(each); !slices.Equal(got, all) {
			t.Errorf("table %d, gone over again: %v", n, got)
		}
	}
}

// R1: gone over while it is gone over.
func TestEachInItself(t *testing.T) {
	each, said := atoms.Each(rows(3, 1)), ""
	for one := range each {
		for other := range each {
			said += strconv.Itoa(one) + strconv.Itoa(other) + " "
		}
	}
	if said != "00 01 02 10 11 12 20 21 22 " {
		t.Errorf("in itself: %q", said)
	}
}

// R3: what is told is the caller's: changed, it changes neither the table nor what is told again.
func TestWhatIsToldIsTheCallers(t *testing.T) {
	x, before := atoms.Table(), fmt.Sprint(atoms.Table())
	each := atoms.Each(x)
	all := gather(each)
	for range 2 {
		for _, atom := range each {
			for i := range atom.Terms {
				atom.Terms[i] = api.Term{Atom: -7, Exp: 77}
			}
			atom.Terms, atom.Codes[0] = append(atom.Terms, api.Term{}), ""
		}
		if fmt.Sprint(x) != before {
			t.Fatal("the table was changed")
		}
		if !slices.Equal(gather(each), all) {
			t.Fatal("other atoms are told again")
		}
	}
}

// R3: a table is not kept: changed, it does not change what is told of it as it was.
func TestTableIsNotKept(t *testing.T) {
	x := atoms.Table()
	each, all := atoms.Each(x), wanted(x)
	spoil(x)
	if !slices.Equal(gather(each), all) {
		t.Error("other atoms are told than were handed in")
	}
}

// R3: what is handed in stays as it is, also behind its end.
func TestWhatIsHandedInStays(t *testing.T) {
	for n, x := range tables() {
		roomy := api.Table{Atoms: append(slices.Clone(x.Atoms), plain(950), plain(951))[:len(x.Atoms)], Prefixes: append(slices.Clone(x.Prefixes), prefix(950, 1))[:len(x.Prefixes)]}
		whole := func() string {
			return fmt.Sprintf("%#v %#v", roomy.Atoms[:len(x.Atoms)+2], roomy.Prefixes[:len(x.Prefixes)+1])
		}
		before := whole()
		atoms.Check(roomy)
		gather(atoms.Each(roomy))
		if whole() != before {
			t.Errorf("table %d was changed", n)
		}
	}
}

// R4: the same calls have the same answers, whatever was asked between them.
func TestSameCallsSameAnswers(t *testing.T) {
	ask := func() string {
		said := fmt.Sprint(atoms.Table())
		for _, x := range tables() {
			said += fmt.Sprint(atoms.Check(x), gather(atoms.Each(x)))
		}
		return said
	}
	if first := ask(); ask() != first {
		t.Error("the same calls have other answers")
	}
}
