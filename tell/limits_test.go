package tell_test

import (
	"strings"
	"testing"

	"drachm/api"
	"drachm/tell"
)

// some is a text so many times, with another one between.
func some(count int, s, between string) string {
	return strings.TrimSuffix(strings.Repeat(s+between, count), between)
}

// sized is a text of so many bytes, and how many it has in each notation, from 1 on; 0, where its note may not be.
type sized struct {
	from, size int
	s          string
	sizes      [notations + 1]int
}

func sizesAre(t *testing.T, m *model, rows []sized) {
	t.Helper()
	for _, x := range rows {
		if len(x.s) != x.size {
			t.Fatalf("%q has %d bytes", x.s, len(x.s))
		}
		for to := 1; to <= notations; to++ {
			got := tell.Tell(x.from, to, x.s)
			want := api.Told{Text: got.Text}
			switch {
			case x.sizes[to] == 0:
				want = api.Told{Err: errNote, At: got.At}
			case x.sizes[to] > maxText:
				want = api.Told{Err: errLong}
			}
			if got != want || want.Err == 0 && len(got.Text) != x.sizes[to] {
				t.Errorf("Tell(%d, %d, %q): %s, want %d bytes", x.from, to, x.s, shown(got), x.sizes[to])
			}
		}
		m.holds(t, x.from, x.s)
	}
}

// P13.1: texts of 255 bytes, and of somewhat fewer, are longer, as long, or shorter in another notation: what is too long there is not told, and has neither a place nor a name.
func TestLong(t *testing.T) {
	m := newModel()
	metres := some(126, "m", ".")
	sizesAre(t, m, []sized{
		{1, 255, some(128, "m", "."), [6]int{0, 255, 255, 255, 255, 255}}, {3, 255, some(128, "m", "*"), [6]int{0, 255, 255, 255, 255, 255}}, {1, 255, "{" + strings.Repeat("x", 253) + "}", [6]int{0, 255, 255, 255, 0, 0}}, {3, 255, "m<" + strings.Repeat("x", 252) + ">", [6]int{0, 255, 255, 255, 0, 0}},
		// codes
		{1, 254, "Pa." + metres, [6]int{0, 254, 255, 254, 254, 254}}, {1, 255, "kPa." + metres, [6]int{0, 255, 256, 255, 255, 255}}, {3, 255, strings.ReplaceAll(metres, ".", "*") + "*kPa", [6]int{0, 255, 256, 255, 255, 255}}, {5, 255, "kPa/" + some(84, "Pa", "/"), [6]int{0, 255, 340, 255, 255, 255}}, {2, 255, some(64, "PAL", "."), [6]int{0, 191, 255, 191, 191, 191}},
		{1, 253, "a." + metres, [6]int{0, 253, 255, 254, 255, 254}}, {4, 255, "ANN." + metres, [6]int{0, 253, 255, 254, 255, 254}}, {1, 255, some(128, "a", "."), [6]int{0, 255, 511, 383, 511, 383}}, {2, 255, some(64, "ann", "/"), [6]int{0, 127, 255, 191, 255, 191}},
		// powers
		{1, 254, "m2." + metres, [6]int{0, 254, 254, 255, 254, 255}}, {1, 255, "km2." + metres, [6]int{0, 255, 255, 256, 255, 256}}, {2, 255, metres + ".km2", [6]int{0, 255, 255, 256, 255, 256}}, {4, 254, some(85, "m2", "/"), [6]int{0, 254, 254, 339, 254, 339}}, {3, 255, some(64, "m^2", "*"), [6]int{0, 191, 191, 255, 191, 255}}, {5, 255, some(64, "m^2", "/"), [6]int{0, 191, 191, 255, 191, 255}},
		// what is not needed
		{1, 255, "(" + some(127, "m", ".") + ")", [6]int{0, 253, 253, 253, 253, 253}}, {1, 255, strings.Repeat("0", 254) + "7", [6]int{0, 1, 1, 1, 1, 1}}, {5, 255, "m^+" + strings.Repeat("0", 251) + "1", [6]int{0, 1, 1, 1, 1, 1}}, {1, 255, "Pa+" + strings.Repeat("0", 250) + "12", [6]int{0, 4, 5, 5, 4, 5}}, {3, 254, some(51, "m^+0", "*"), [6]int{0, 152, 152, 203, 152, 203}},
	})
	// a text that is too long has that error, though it were none in the other notation
	for to := 1; to <= notations; to++ {
		tells(t, 2, to, "K"+some(64, "PAL", "."), api.Told{Err: errLong})
		tells(t, 1, to, strings.Repeat("0", 255)+"7", api.Told{Err: errLong})
	}
}

// P13.1: what is missing, and a note that may not be, go ahead of a text that is too long.
func TestLackingAndLong(t *testing.T) {
	years := some(127, "a", ".")
	for _, to := range []int{2, 3, 4, 5} {
		tells(t, 1, to, years+".a", api.Told{Err: errLong})
	}
	tells(t, 1, 4, years+".%", api.Told{Err: errMiss, At: 253, Name: "%"})
	tells(t, 1, 4, "%."+years, api.Told{Err: errMiss, Name: "%"})
	tells(t, 1, 3, "a."+some(125, "a", ".")+"/Par", api.Told{Err: errMiss, At: 251, Name: "Par"})
	tells(t, 1, 5, some(126, "a", ".")+".{}", api.Told{Err: errNote, At: 251})
	tells(t, 1, 4, some(126, "a", ".")+"{}", api.Told{Err: errNote, At: 250})
	tells(t, 1, 3, "{<}/"+some(125, "a", "."), api.Told{Err: errNote})
}

// P13.1: as many brackets as may stand in one another in one notation may do so in each; one more is parse's error, though the tree needs none of them.
func TestDeep(t *testing.T) {
	m := newModel()
	around := func(open, inner string, count int) string {
		return strings.Repeat(open, count) + inner + strings.Repeat(")", count)
	}
	for from := 1; from <= notations; from++ {
		for to := 1; to <= notations; to++ {
			letter := func(n int) string { return m.code(n, what{-1, 0}) }
			tells(t, from, to, around("/(", "/"+letter(from), 32), api.Told{Text: around("/(", "/"+letter(to), 32)})
			tells(t, from, to, around("2/(", "7/3", 32), api.Told{Text: around("2/(", "7/3", 32)})
			tells(t, from, to, around("(", letter(from), 32), api.Told{Text: letter(to)})
			tells(t, from, to, around("/(", "/"+letter(from), 33), api.Told{Err: errDeep, At: 65})
			tells(t, from, to, around("2/(", "7/3", 33), api.Told{Err: errDeep, At: 98})
			tells(t, from, to, around("(", letter(from), 33), api.Told{Err: errDeep, At: 32})
		}
	}
}
