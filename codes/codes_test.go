package codes_test

import (
	"fmt"
	"iter"
	"math"
	"slices"
	"strconv"
	"strings"
	"testing"

	"drachm/codes"
)

const notations = 5

// row is what the document calls one atom, or prefix, by notations from 1 on.
type row [notations + 1]string

// kind is one kind of rows: the document's, and the calls that tell and find them.
type kind struct {
	name string
	rows []row
	tell func(n, place int) string
	find func(n int, code string) (int, bool)
}

func kinds(t *testing.T) []kind {
	t.Helper()
	return []kind{
		{"atom", read(t, atomRows, 48), codes.Code, codes.Atom},
		{"prefix", read(t, prefixRows, 20), codes.PrefixCode, codes.Prefix},
	}
}

// read are the document's rows, of which there must be so many, each at its place.
func read(t *testing.T, text string, count int) []row {
	t.Helper()
	var out []row
	for line := range strings.Lines(strings.TrimSpace(text)) {
		cells := strings.Split(strings.TrimSpace(line), "|")
		if len(cells) != notations+1 || cells[0] != strconv.Itoa(len(out)) {
			t.Fatalf("no row of the document: %q", line)
		}
		cells[0] = ""
		out = append(out, row(cells))
	}
	if len(out) != count {
		t.Fatalf("%d rows, want %d", len(out), count)
	}
	return out
}

// place is where a code stands among the document's, as find has to tell it.
func (k kind) place(n int, code string) (int, bool) {
	if n < 1 || n > notations || code == "" {
		return -1, false
	}
	place := slices.IndexFunc(k.rows, func(r row) bool { return r[n] == code })
	return place, place >= 0
}

// code is what tell has to tell.
func (k kind) code(n, place int) string {
	if n < 1 || n > notations || place < 0 || place >= len(k.rows) {
		return ""
	}
	return k.rows[place][n]
}

func (k kind) tells(t *testing.T, n, place int) {
	t.Helper()
	if got, want := k.tell(n, place), k.code(n, place); got != want {
		t.Errorf("%s %d in notation %d: %q, want %q", k.name, place, n, got, want)
	}
}

func (k kind) finds(t *testing.T, n int, code string) {
	t.Helper()
	place, ok := k.find(n, code)
	if want, is := k.place(n, code); place != want || ok != is {
		t.Errorf("%s %q in notation %d: %d %v, want %d %v", k.name, code, n, place, ok, want, is)
	}
}

// others are notations that there are not.
var others = []int{math.MinInt, math.MinInt + 1, -1 << 32, -6, -5, -2, -1, 0, 6, 7, 255, 256, 257, 261, 1<<32 + 1, math.MaxInt - 1, math.MaxInt}

// all are those, and the five.
func all() []int { return append([]int{1, 2, 3, 4, 5}, others...) }

// P6.1, P6.2: the document's examples.
func TestExamples(t *testing.T) {
	if got := codes.Code(4, 13); got != "J" {
		t.Errorf("Code(4, 13): %q", got)
	}
	if got, ok := codes.Atom(2, "PAL"); got != 12 || !ok {
		t.Errorf("Atom(2, PAL): %d %v", got, ok)
	}
	if got, ok := codes.Prefix(4, "PE"); got != 3 || !ok {
		t.Errorf("Prefix(4, PE): %d %v", got, ok)
	}
}

// P6.1: every code, in each notation, and in those that there are not.
func TestEveryCodeIsTold(t *testing.T) {
	for _, k := range kinds(t) {
		for _, n := range all() {
			for place := range k.rows {
				k.tells(t, n, place)
			}
		}
	}
}

// P6.1: places at the edges, and beyond them, in each notation.
func TestPlacesThatAreNone(t *testing.T) {
	for _, k := range kinds(t) {
		last := len(k.rows) - 1
		for _, n := range all() {
			for _, place := range []int{
				math.MinInt, math.MinInt + 1, -1 << 32, -48, -20, -2, -1, 0, 1, last - 1, last, last + 1, last + 2,
				20, 47, 48, 67, 68, 99, 100, 255, 256, 1 << 32, math.MaxInt - 1, math.MaxInt,
			} {
				k.tells(t, n, place)
			}
		}
	}
}

// P6.1, P6.2: what has no code in a notation is told as nothing there; and the empty code is nobody's.
func TestPlacesWithoutCode(t *testing.T) {
	without := map[string]map[int][]int{
		"atom":   {1: nil, 2: nil, 3: nil, 4: {7, 39, 40, 41, 47}, 5: {21, 39, 40}},
		"prefix": {1: nil, 2: nil, 3: nil, 4: {0, 1, 18, 19}, 5: nil},
	}
	for _, k := range kinds(t) {
		for n := 1; n <= notations; n++ {
			var got []int
			for place := range k.rows {
				if k.tell(n, place) == "" {
					got = append(got, place)
				}
			}
			if !slices.Equal(got, without[k.name][n]) {
				t.Errorf("without a code in notation %d: %v", n, got)
			}
		}
		for _, n := range all() {
			if place, ok := k.find(n, ""); place != -1 || ok {
				t.Errorf("the empty code in notation %d: %s %d %v", n, k.name, place, ok)
			}
		}
	}
}

// P6.2: every code of both kinds and of all notations, asked of both kinds, in each notation and in those that there are not.
func TestEveryCodeIsFound(t *testing.T) {
	for _, k := range kinds(t) {
		for _, n := range all() {
			for _, from := range kinds(t) {
				for _, r := range from.rows {
					for _, code := range r {
						k.finds(t, n, code)
					}
				}
			}
		}
	}
}

// P6.2: one code is an atom's and a prefix's, at places of their own, or one kind's alone.
func TestCodesOfTheOtherKind(t *testing.T) {
	for _, c := range []struct {
		n            int
		code         string
		atom, prefix int
	}{
		{1, "m", 0, 12}, {1, "d", 33, 10}, {1, "h", 32, 8}, {1, "a", 34, 17}, {3, "a", 30, 17}, {5, "a", 30, 17}, {1, "T", 22, 4}, {1, "u", 45, 13}, {4, "U", 45, 13},
		{2, "U", -1, 13}, {2, "K", 4, 7}, {1, "K", 4, -1}, {1, "k", -1, 7}, {5, "h", -1, 8}, {5, "hr", 32, -1}, {1, "da", -1, 9}, {2, "D", 33, 10},
		{4, "PA", 12, -1}, {2, "PA", -1, -1}, {4, "PE", -1, 3}, {2, "PT", -1, 3}, {4, "PT", -1, -1}, {2, "YA", -1, 0}, {4, "YA", -1, -1}, {4, "Y", -1, -1},
		{1, "S", 19, -1}, {2, "S", 1, -1}, {4, "S", 1, -1}, {2, "SIE", 19, -1}, {1, "SIE", -1, -1}, {3, "L", 29, -1}, {3, "l", -1, -1},
		{3, "[oC]", 21, -1}, {1, "[oC]", -1, -1}, {5, "[oC]", -1, -1}, {5, "Cel", -1, -1}, {4, "%", -1, -1}, {5, "%", 7, -1},
	} {
		if got, ok := codes.Atom(c.n, c.code); got != c.atom || ok != (c.atom >= 0) {
			t.Errorf("Atom(%d, %q): %d %v, want %d", c.n, c.code, got, ok, c.atom)
		}
		if got, ok := codes.Prefix(c.n, c.code); got != c.prefix || ok != (c.prefix >= 0) {
			t.Errorf("Prefix(%d, %q): %d %v, want %d", c.n, c.code, got, ok, c.prefix)
		}
	}
}

// changed are texts near a code: a letter more or less, another one, in another case.
func changed(code string) []string {
	out := []string{strings.ToUpper(code), strings.ToLower(code), code + code}
	for i := range len(code) + 1 {
		for _, letter := range []string{"a", "M", "_", "[", "]", " ", "\x00", "\xff"} {
			out = append(out, code[:i]+letter+code[i:])
			if i < len(code) {
				out = append(out, code[:i]+letter+code[i+1:])
			}
		}
		if i < len(code) {
			out = append(out, code[:i]+code[i+1:], code[:i], code[i:])
		}
	}
	return out
}

// P6.2: texts near a code are found just if they are one themselves.
func TestTextsNearCodes(t *testing.T) {
	for _, k := range kinds(t) {
		texts := map[string]bool{}
		for _, r := range k.rows {
			for _, code := range r {
				for _, text := range changed(code) {
					texts[text] = true
				}
			}
		}
		for text := range texts {
			for n := 1; n <= notations; n++ {
				k.finds(t, n, text)
			}
		}
	}
}

// P6.2: texts that are no code in any notation.
func TestTextsThatAreNoCode(t *testing.T) {
	texts := []string{
		" ", "  ", "\x00", "\n", "0", "1", "-1", "47", "xyz", "mm", "mmol", "m m", " m", "m ", "m\x00", "\x00m", "m\n", "m/s", "m2", "m1", "m-1", "-", "|", "[", "]", "[]", "_", "'",
		"[in_i", "in_i]", "[IN_i]", "[in_i]]", "[[in_i]", "[pH]\x00", "%%", "µ", "μ", "Å", "Ω", "°C", "\u2103", "\u212a", "\u017f", "\xff", "m\xff", "\xed\xa0\x80", "metre", "nil", "none",
		strings.Repeat("m", 8), strings.Repeat("m", 9), strings.Repeat("s", 255), strings.Repeat("K", 256), strings.Repeat("g", 1<<16), strings.Repeat("[", 1<<20),
	}
	for _, k := range kinds(t) {
		for _, n := range all() {
			for _, text := range texts {
				if place, ok := k.find(n, text); place != -1 || ok {
					t.Errorf("%.20q in notation %d: %s %d %v", text, n, k.name, place, ok)
				}
			}
		}
	}
}

// named is an atom's place and code, as it is told.
type named struct {
	place int
	code  string
}

func gather(each iter.Seq2[int, string]) []named {
	var out []named
	for place, code := range each {
		out = append(out, named{place, code})
	}
	return out
}

// wanted is what All has to tell.
func wanted(t *testing.T, n int) []named {
	t.Helper()
	var out []named
	for place, r := range kinds(t)[0].rows {
		if n >= 1 && n <= notations && r[n] != "" {
			out = append(out, named{place, r[n]})
		}
	}
	return out
}

// P6.2: all atoms of each notation, by rising places, with their codes; none, if there is no such notation.
func TestAll(t *testing.T) {
	for _, n := range all() {
		if got, want := gather(codes.All(n)), wanted(t, n); !slices.Equal(got, want) {
			t.Errorf("notation %d: %v, want %v", n, got, want)
		}
	}
	for n, want := range []int{0, 48, 48, 48, 43, 45, 0} {
		if got := len(gather(codes.All(n))); got != want {
			t.Errorf("notation %d: %d atoms, want %d", n, got, want)
		}
	}
}

// R1: what is told one by one is never nil, also where it tells nothing.
func TestAllIsNeverNil(t *testing.T) {
	for _, n := range all() {
		if codes.All(n) == nil {
			t.Errorf("notation %d: nil", n)
		}
	}
}

// R1: left off at each place, and gone over again.
func TestAllIsLeftOffAnywhere(t *testing.T) {
	for _, n := range all() {
		each, want := codes.All(n), wanted(t, n)
		for stop := 1; stop <= len(want); stop++ {
			var got []named
			each(func(place int, code string) bool {
				got = append(got, named{place, code})
				return len(got) != stop
			})
			if !slices.Equal(got, want[:stop]) {
				t.Fatalf("notation %d, left off at %d: %v", n, stop, got)
			}
		}
		for range 2 {
			if got := gather(each); !slices.Equal(got, want) {
				t.Errorf("notation %d, gone over again: %v", n, got)
			}
		}
	}
}

// R1: gone over while it is gone over, and while another one is.
func TestAllInItself(t *testing.T) {
	each, other := codes.All(4), codes.All(5)
	want := wanted(t, 4)
	var outer []named
	for place, code := range each {
		outer = append(outer, named{place, code})
		if !slices.Equal(gather(each), want) || !slices.Equal(gather(other), wanted(t, 5)) {
			t.Fatalf("other atoms at %d", place)
		}
	}
	if !slices.Equal(outer, want) {
		t.Errorf("gone over with others: %v", outer)
	}
}

// P6.3: what is told is found, for each place and notation, at that place.
func TestWhatIsToldIsFound(t *testing.T) {
	for _, k := range kinds(t) {
		for n := -3; n <= 9; n++ {
			for place := -3; place <= 70; place++ {
				code := k.tell(n, place)
				got, ok := k.find(n, code)
				if code == "" && (ok || got != -1) || code != "" && (!ok || got != place) {
					t.Errorf("%s %d in notation %d: %q is found at %d, %v", k.name, place, n, code, got, ok)
				}
			}
		}
	}
}

// P6.3: what is found is told, for texts of up to three letters.
func TestWhatIsFoundIsTold(t *testing.T) {
	letters := []string{"", "m", "M", "S", "a", "A", "P", "E", "C", "d", "k", "L"}
	var texts []string
	for _, one := range letters {
		for _, two := range letters {
			for _, three := range letters {
				texts = append(texts, one+two+three)
			}
		}
	}
	slices.Sort(texts)
	texts = slices.Compact(texts)
	for _, k := range kinds(t) {
		found := 0
		for n := 0; n <= notations+1; n++ {
			for _, text := range texts {
				place, ok := k.find(n, text)
				if !ok {
					continue
				}
				found++
				if got := k.tell(n, place); got != text {
					t.Errorf("%s %q in notation %d is at %d, which is %q", k.name, text, n, place, got)
				}
			}
		}
		if found == 0 {
			t.Errorf("no %s was found", k.name)
		}
	}
}

// P6.3: All tells what Code does, and nothing else.
func TestAllIsWhatCodeTells(t *testing.T) {
	for n := -2; n <= 8; n++ {
		told := map[int]string{}
		for place, code := range codes.All(n) {
			told[place] = code
		}
		for place := -2; place <= 70; place++ {
			if got := codes.Code(n, place); got != told[place] {
				t.Errorf("atom %d in notation %d: %q, and All tells %q", place, n, got, told[place])
			}
		}
	}
}

// R4: the same calls have the same answers, whatever was asked between.
func TestAskedAgain(t *testing.T) {
	say := func() string {
		var out strings.Builder
		for _, k := range kinds(t) {
			for n := 0; n <= 6; n++ {
				for place := -1; place <= 48; place++ {
					code := k.tell(n, place)
					at, ok := k.find(n, code)
					fmt.Fprintln(&out, code, at, ok)
				}
			}
		}
		return out.String()
	}
	before := say()
	for place, code := range codes.All(1) {
		codes.Atom(place, code)
	}
	if say() != before {
		t.Error("other answers to the same calls")
	}
}
