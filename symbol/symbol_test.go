package symbol_test

import (
	"math"
	"slices"
	"strings"
	"testing"

	"drachm/symbol"
)

// is is a text in a notation, and what it has to be found to be; -1 and -1, if it is none.
type is struct {
	n            int
	text         string
	prefix, atom int
}

func found(t *testing.T, rows []is) {
	t.Helper()
	for _, c := range rows {
		prefix, atom, ok := symbol.Find(c.n, c.text)
		if prefix != c.prefix || atom != c.atom || ok != (c.atom >= 0) {
			t.Errorf("Find(%d, %q): %d %d %v, want %d %d", c.n, c.text, prefix, atom, ok, c.prefix, c.atom)
		}
	}
}

// P10.1: the document's examples.
func TestExamples(t *testing.T) {
	found(t, []is{{1, "cd", -1, 6}, {1, "dar", 10, 30}, {4, "PEV", 3, 16}})
}

// P10.1: each atom by its own code, in each notation; and by each code of it in the others, and where there is no such notation.
func TestAtomsAreFound(t *testing.T) {
	for _, n := range every() {
		m := modelOf(n)
		for atom, a := range atomsRead() {
			for own, code := range a.codes {
				m.finds(t, n, code)
				if own != n || code == "" {
					continue
				}
				if prefix, place, ok := symbol.Find(n, code); prefix != -1 || place != atom || !ok {
					t.Errorf("Find(%d, %q): %d %d %v, want the atom %d alone", n, code, prefix, place, ok, atom)
				}
			}
		}
	}
}

// P10.1: each prefix ahead of each atom, metric or not, in each notation.
func TestPrefixesAheadOfAtoms(t *testing.T) {
	for n := 1; n <= notations; n++ {
		m := modelOf(n)
		for _, p := range prefixesRead() {
			for _, a := range atomsRead() {
				m.finds(t, n, p.codes[n]+a.codes[n])
			}
		}
	}
}

// P10.1: a prefix stands ahead of metric atoms alone.
func TestNotMetric(t *testing.T) {
	notMetric := []int{7, 31, 32, 33, 34, 37, 38, 39, 47}
	rows := atomsRead()
	for place, a := range rows {
		if a.metric == slices.Contains(notMetric, place) {
			t.Fatalf("atom %d: is it metric?", place)
		}
	}
	for n := 1; n <= notations; n++ {
		for _, place := range notMetric {
			if code := rows[place].codes[n]; code != "" {
				found(t, []is{{n, code, -1, place}, {n, "k" + code, -1, -1}, {n, "K" + code, -1, -1}, {n, "G" + code, -1, -1}, {n, "T" + code, -1, -1}})
			}
		}
	}
	found(t, []is{
		{1, "kmin", -1, -1}, {1, "m[in_i]", -1, -1}, {1, "mmin", -1, -1}, {1, "ka", -1, -1}, {1, "m%", -1, -1}, {2, "KHR", -1, -1}, {3, "kin", -1, -1}, {3, "kyr", -1, -1}, {4, "KLB", -1, -1}, {5, "khr", -1, -1}, {5, "kdr", -1, -1},
		{3, "ka", 7, 30}, {5, "ka", 7, 30}, {4, "KARE", 7, 30}, {1, "kar", 7, 30},
	})
}

// P10.1: what is an atom, and a prefix and a metric atom, too, is the whole atom, metric or not.
func TestWholeAtomsGoAhead(t *testing.T) {
	found(t, []is{
		{3, "Pa", -1, 12}, {5, "Pa", -1, 12}, {4, "PA", -1, 12}, {4, "EV", -1, 46}, {3, "pH", -1, 39},
		{1, "Pa", -1, 12}, {1, "pH", 15, 23}, {5, "pH", 15, 23}, {2, "PA", 15, 15}, {4, "PH", 15, 23}, {2, "PAL", -1, 12}, {2, "EV", -1, 46}, {2, "EXV", 2, 16}, {1, "EV", 2, 16}, {1, "eV", -1, 46},
		// what stands behind the prefix is not metric in these
		{1, "cd", -1, 6}, {2, "CD", -1, 6}, {1, "min", -1, 31}, {3, "min", -1, 31}, {4, "MIN", -1, 31}, {3, "mlb", -1, -1},
	})
}

// P10.1: of two prefixes that begin a text the first one counts for which what is left is a metric atom.
func TestTwoPrefixesBegin(t *testing.T) {
	found(t, []is{
		{4, "PEV", 3, 16}, {4, "PEEV", 3, 46}, {4, "PEQ", 15, 42}, {4, "PEEQ", 3, 42}, {4, "PEM", 3, 0}, {4, "PE", -1, -1},
		{1, "dar", 10, 30}, {1, "daar", 9, 30}, {1, "dam", 9, 0}, {1, "dal", 9, 29}, {1, "darad", 9, 3}, {1, "da", -1, -1}, {1, "dad", -1, -1}, {3, "da", 10, 30}, {3, "daa", 9, 30}, {5, "da", 10, 30}, {3, "dar", -1, -1},
		{2, "DAR", 10, 30}, {2, "DAMU", 10, 45}, {2, "DAAMU", 9, 45}, {2, "DA", 10, 15}, {2, "DAA", 9, 15}, {4, "DARE", 10, 30}, {4, "DAARE", 9, 30}, {4, "DA", 10, 15}, {4, "DAR", -1, -1},
		{2, "MAR", 12, 30}, {2, "MAAR", 6, 30}, {2, "MAMU", 12, 45}, {2, "MAMOL", 6, 8}, {2, "MA", 12, 15}, {2, "MAA", 6, 15}, {4, "MARE", 12, 30}, {4, "MAR", -1, -1}, {4, "MA", 12, 15}, {4, "MAM", 6, 0},
		{2, "PT", 15, 22}, {2, "PTT", 3, 22}, {2, "PTNE", 15, 35}, {2, "PTTNE", 3, 35}, {2, "PTM", 3, 0}, {2, "PTHR", -1, -1}, {2, "DAHR", -1, -1}, {4, "PEHR", -1, -1}, {1, "dah", -1, -1}, {1, "dad", -1, -1},
	})
}

// P10.1: what has no code in a notation stands in no symbol there.
func TestCodesThatANotationLacks(t *testing.T) {
	for n := 1; n <= notations; n++ {
		m := modelOf(n)
		for from := 1; from <= notations; from++ {
			for _, p := range prefixesRead() {
				for _, a := range atomsRead() {
					if a.codes[n] == "" || p.codes[n] == "" {
						m.finds(t, n, a.codes[from])
						m.finds(t, n, p.codes[from]+a.codes[from])
						m.finds(t, n, p.codes[n]+a.codes[from])
						m.finds(t, n, p.codes[from]+a.codes[n])
					}
				}
			}
		}
	}
	found(t, []is{
		{4, "%", -1, -1}, {4, "PH", 15, 23}, {4, "B", -1, -1}, {4, "DB", -1, -1}, {4, "IU", -1, -1}, {4, "DR", -1, -1}, {4, "KIU", -1, -1}, {5, "Cel", -1, -1}, {5, "mCel", -1, -1}, {5, "B", -1, -1}, {5, "dB", -1, -1}, {5, "[oC]", -1, -1},
		{4, "YM", -1, -1}, {4, "YAM", -1, -1}, {4, "ZM", -1, -1}, {4, "ZOM", -1, -1}, {4, "YOM", -1, -1}, {4, "EXM", -1, -1}, {4, "EM", 2, 0}, {2, "YAM", 0, 0}, {2, "YM", -1, -1}, {2, "EM", -1, -1}, {2, "ZOM", 18, 0}, {2, "ZAM", 1, 0}, {2, "YOM", 19, 0},
		{1, "dB", 10, 40}, {2, "DB", 10, 40}, {3, "dB", 10, 40}, {3, "m[oC]", 12, 21}, {3, "Cel", -1, -1}, {4, "MCEL", 12, 21}, {1, "k[iU]", 7, 41}, {5, "kIU", 7, 41},
	})
}

// P10.1: a prefix alone is none, but where it is a symbol by other means; so is a prefix ahead of a prefix, with an atom or without.
func TestPrefixesAlone(t *testing.T) {
	behind := []int{-1, 0, 8, 15, 29, 30, 32, 36}
	for n := 1; n <= notations; n++ {
		m := modelOf(n)
		for _, p := range prefixesRead() {
			m.finds(t, n, p.codes[n])
			for _, q := range prefixesRead() {
				for _, place := range behind {
					code := ""
					if place >= 0 {
						code = atomsRead()[place].codes[n]
					}
					m.finds(t, n, p.codes[n]+q.codes[n]+code)
				}
			}
		}
	}
	found(t, []is{
		{1, "k", -1, -1}, {1, "Y", -1, -1}, {1, "da", -1, -1}, {1, "m", -1, 0}, {1, "c", -1, -1}, {2, "MA", 12, 15}, {2, "YA", -1, -1}, {2, "EX", -1, -1}, {2, "PT", 15, 22}, {2, "K", -1, 4}, {4, "PE", -1, -1},
		{1, "kkm", -1, -1}, {1, "mmm", -1, -1}, {1, "kmm", -1, -1}, {1, "ddm", -1, -1}, {1, "dadam", -1, -1}, {1, "dacm", -1, -1}, {1, "cdm", -1, -1}, {2, "MAKM", -1, -1}, {1, "mm", 12, 0}, {1, "uu", 13, 45}, {1, "kk", -1, -1}, {1, "hh", -1, -1},
		// an atom ahead of an atom, and a prefix behind one
		{1, "Pam", -1, -1}, {1, "molmol", -1, -1}, {1, "Hzk", -1, -1}, {1, "sm", -1, -1}, {1, "mk", -1, -1},
	})
}

// nearby are texts with a byte too many or too few, or another one, and those of the other case.
func nearby(text string) []string {
	out := []string{strings.ToUpper(text), strings.ToLower(text), text[1:], text[:len(text)-1], text + text}
	for _, more := range []string{"a", "m", "M", "k", "_", "]", "2", " ", "\x00", "\xff"} {
		out = append(out, more+text, text+more, more+text[1:], text[:len(text)-1]+more)
	}
	return out
}

// P10.1: texts near each symbol are found just if they are one themselves.
func TestTextsNearSymbols(t *testing.T) {
	for n := 1; n <= notations; n++ {
		m := modelOf(n)
		texts := map[string]bool{}
		for i, one := range m.all {
			// Symbols with a prefix are all of one kind: each third one will do.
			if one.prefix < 0 || i%3 == 0 {
				for _, text := range nearby(one.text) {
					texts[text] = true
				}
			}
		}
		for text := range texts {
			m.finds(t, n, text)
		}
	}
}

// P10.1: letters count as they stand, where small ones are raised, too.
func TestSmallAndCapitalLetters(t *testing.T) {
	found(t, []is{
		{1, "mmol", 12, 8}, {1, "Mmol", 6, 8}, {1, "MMOL", -1, -1}, {1, "mMol", -1, -1}, {2, "MMOL", 12, 8}, {2, "mmol", -1, -1}, {2, "Mmol", -1, -1}, {2, "MMOl", -1, -1}, {4, "MMOL", 12, 8}, {4, "mmol", -1, -1}, {4, "mMOL", -1, -1},
		{1, "pa", -1, -1}, {1, "PA", 3, 15}, {1, "mPa", 12, 12}, {1, "MPa", 6, 12}, {1, "mpa", -1, -1}, {1, "S", -1, 19}, {1, "s", -1, 1}, {1, "ms", 12, 1}, {1, "mS", 12, 19}, {1, "Ms", 6, 1}, {2, "S", -1, 1}, {2, "MS", 12, 1}, {2, "MAS", 6, 1}, {2, "MSIE", 12, 19},
		{5, "ohm", -1, 18}, {5, "Ohm", -1, -1}, {5, "kohm", 7, 18}, {5, "kOhm", -1, -1}, {3, "kOhm", 7, 18}, {3, "kohm", -1, -1}, {3, "L", -1, 29}, {3, "l", -1, -1}, {3, "mL", 12, 29}, {3, "ml", -1, -1}, {1, "ml", 12, 29}, {1, "mL", -1, -1},
	})
}

// P10.1: the empty text, and texts that are far from all symbols, are none anywhere; no text is one where there is no such notation.
func TestNoSymbols(t *testing.T) {
	texts := []string{
		"", " ", "  ", "\x00", "\n", "0", "1", "xyz", "m m", " m", "m ", "m\x00", "\x00m", "k\x00m", "m/s", "m2", "m-1", "m.s", "-", ".", "{m}", "(m)", "[", "]", "[]", "_", "'", "[in_i", "in_i]", "%%",
		"µ", "µm", "\u03bcm", "k\u2126", "\u212a", "k\u212a", "°C", "\xff", "k\xff", "\xffm", "\xed\xa0\x80", "metre", "none",
		strings.Repeat("m", 3), strings.Repeat("m", 9), strings.Repeat("k", 255), strings.Repeat("da", 128) + "m", "k" + strings.Repeat(" ", 1<<16), strings.Repeat("m", 1<<20), strings.Repeat("M", 1<<20),
	}
	for _, n := range every() {
		for _, text := range texts {
			if prefix, atom, ok := symbol.Find(n, text); prefix != -1 || atom != -1 || ok {
				t.Errorf("Find(%d, %.20q): %d %d %v", n, text, prefix, atom, ok)
			}
		}
	}
	for _, n := range others() {
		for own := 1; own <= notations; own++ {
			for i, one := range modelOf(own).all {
				if prefix, atom, ok := symbol.Find(n, one.text); (one.prefix < 0 || i%20 == 0) && (prefix != -1 || atom != -1 || ok) {
					t.Errorf("Find(%d, %q): %d %d %v", n, one.text, prefix, atom, ok)
				}
			}
		}
	}
}

// P10.1: all texts of up to two letters of codes.
func TestShortTexts(t *testing.T) {
	letters := []string{"", "%", "'", "_", "[", "]"}
	for c := 'A'; c <= 'Z'; c++ {
		letters = append(letters, string(c), strings.ToLower(string(c)))
	}
	for n := 1; n <= notations; n++ {
		m := modelOf(n)
		for _, one := range letters {
			for _, two := range letters {
				m.finds(t, n, one+two)
			}
		}
	}
}

// P10.2: each prefix, and none, with each atom, at the ends of both rows and beyond them, in each notation.
func TestTextAndTold(t *testing.T) {
	for n := 0; n <= notations+1; n++ {
		m := modelOf(n)
		for prefix := -3; prefix <= prefixCount+2; prefix++ {
			for atom := -3; atom <= atomCount+2; atom++ {
				m.tells(t, n, prefix, atom)
			}
		}
	}
}

// P10.2: places far from any, some of which are places if bits are cut off; notations that there are not.
func TestPlacesThatAreNone(t *testing.T) {
	far := []int{math.MinInt, math.MinInt + 1, -1 << 32, -(1 << 31), -256, -49, -48, -21, -20, -2, 68, 99, 100, 127, 255, 256, 260, 1 << 31, 1 << 32, 1<<32 + 1, 1<<32 - 1, math.MaxInt - 1, math.MaxInt}
	for _, n := range every() {
		for _, there := range []int{-1, 0, 7, 19} {
			for _, place := range far {
				for _, c := range [][2]int{{place, there}, {there, place}, {place, place}} {
					if text, is := symbol.Text(n, c[0], c[1]), symbol.Told(n, c[0], c[1]); text != "" || is {
						t.Errorf("notation %d, prefix %d, atom %d: %q %v", n, c[0], c[1], text, is)
					}
				}
			}
		}
	}
	for _, n := range others() {
		for _, c := range [][2]int{{-1, -1}, {-1, 0}, {-1, 47}, {0, 0}, {19, 46}, {7, 2}, {12, 8}} {
			if text, is := symbol.Text(n, c[0], c[1]), symbol.Told(n, c[0], c[1]); text != "" || is {
				t.Errorf("notation %d, prefix %d, atom %d: %q %v", n, c[0], c[1], text, is)
			}
		}
	}
}

// P10.2: texts written out; which of them are told.
func TestTextsWrittenOut(t *testing.T) {
	for _, c := range []struct {
		n, prefix, atom int
		text            string
		told            bool
	}{
		{1, -1, 0, "m", true}, {5, -1, 47, "dr", true}, {1, -1, 47, "[dr_av]", true}, {4, -1, 46, "EV", true}, {3, -1, 7, "%", true}, {1, 0, 0, "Ym", true}, {1, 19, 46, "yeV", true}, {2, 0, 12, "YAPAL", true}, {2, 6, 41, "MA[IU]", true}, {3, 9, 21, "da[oC]", true}, {5, 7, 18, "kohm", true},
		// no code there
		{4, -1, 7, "", false}, {4, -1, 39, "", false}, {5, -1, 21, "", false}, {5, 12, 21, "", false}, {4, 0, 12, "", false}, {4, 1, 0, "", false}, {4, 18, 0, "", false}, {4, 19, 0, "", false}, {4, 10, 40, "", false}, {4, 0, 40, "", false},
		// not metric
		{1, 7, 31, "", false}, {1, 0, 7, "", false}, {3, 12, 37, "", false}, {5, 19, 47, "", false}, {2, 10, 39, "", false},
		// no such place
		{1, -1, -1, "", false}, {1, -2, 0, "", false}, {1, 20, 0, "", false}, {1, -1, 48, "", false}, {1, 19, 48, "", false}, {1, 0, -1, "", false}, {1, 20, 7, "", false}, {1, -2, -1, "", false},
		// found to be something else
		{3, 3, 30, "Pa", false}, {5, 3, 30, "Pa", false}, {3, 15, 23, "pH", false}, {4, 15, 15, "PA", false}, {4, 2, 16, "EV", false}, {4, 15, 46, "PEV", false},
		// those which they are found to be, and their like elsewhere
		{3, -1, 12, "Pa", true}, {3, -1, 39, "pH", true}, {4, -1, 12, "PA", true}, {4, 3, 16, "PEV", true}, {1, 3, 30, "Par", true}, {1, 15, 23, "pH", true}, {5, 15, 23, "pH", true}, {2, 15, 15, "PA", true}, {2, 15, 46, "PEV", true}, {4, 3, 46, "PEEV", true}, {1, 10, 30, "dar", true}, {2, 10, 45, "DAMU", true}, {4, 12, 30, "MARE", true},
	} {
		if got := symbol.Text(c.n, c.prefix, c.atom); got != c.text {
			t.Errorf("Text(%d, %d, %d): %q, want %q", c.n, c.prefix, c.atom, got, c.text)
		}
		if got := symbol.Told(c.n, c.prefix, c.atom); got != c.told {
			t.Errorf("Told(%d, %d, %d): %v, want %v", c.n, c.prefix, c.atom, got, c.told)
		}
	}
}
