package tell_test

import (
	"math/rand"
	"slices"
	"strings"
	"testing"

	"drachm/api"
	"drachm/parse"
	"drachm/tell"
	"drachm/tree"
)

// P13.1, P13.3: each symbol of each notation, in each one; some with a power, within a greater text.
func TestAllSymbols(t *testing.T) {
	t.Parallel()
	m := newModel()
	for from := 1; from <= notations; from++ {
		for text, w := range m.is[from] {
			for to := 1; to <= notations; to++ {
				there, told := m.texts[to][w]
				want := api.Told{Text: there}
				if !told {
					want = api.Told{Err: errMiss, Name: m.code(1, w)}
				}
				tells(t, from, to, text, want)
				if (w.prefix+w.atom)%3 != 0 {
					continue
				}
				if told {
					want.Text = "7/" + there + marks[to].pow + "-3"
				} else {
					want.At = 1
				}
				tells(t, from, to, "7/"+text+marks[from].pow+"-3", want)
			}
		}
	}
}

// pieces are those that texts of a notation are put together of: symbols that some notation lacks, or has another code for, a number, signs, brackets, and notes, of which one may be in some notations only.
func (m *model) pieces(n int) []string {
	own := marks[n]
	out := []string{"2", "-", own.mul, "/", own.pow, "(", ")"}
	for _, atom := range []int{7, 21, 30} {
		out = append(out, m.code(n, what{-1, atom}))
	}
	if own.open != "" {
		other := strings.NewReplacer("{", "<", "<", "{").Replace(own.open)
		out = append(out, own.open+own.close, own.open+other+own.close)
	}
	return slices.DeleteFunc(out, func(s string) bool { return s == "" })
}

// P13.1, P13.3: all texts of up to four tokens (five in Shown, which has all that a notation may have), told in each notation: what is parsed is told in its own one, and told back from each in which it is told.
func TestAllShortTexts(t *testing.T) {
	t.Parallel()
	m := newModel()
	for from := 1; from <= notations; from++ {
		longest := 4
		if from == 3 {
			longest = 5
		}
		right := 0
		var grow func(s string, size int)
		grow = func(s string, size int) {
			p := parse.Parse(from, s)
			if p.Err == 0 {
				right++
			}
			m.holds(t, from, s)
			// What can't stand there does not, whatever follows.
			if size == longest || p.Err == errSyntax && p.At < len(s) {
				return
			}
			for _, piece := range m.pieces(from) {
				grow(s+piece, size+1)
			}
		}
		grow("", 0)
		if right < 90 {
			t.Errorf("%d texts in the notation %d", right, from)
		}
	}
}

// P13.1, P13.3: longer texts, by chance, the same ones each time, in each notation that has all of them.
func TestLongerTexts(t *testing.T) {
	t.Parallel()
	m := newModel()
	chance := rand.New(rand.NewSource(13))
	told := [notations + 1][notations + 1]int{}
	for range 120 {
		of := m.byChance(chance, 1+chance.Intn(12))
		if !tree.Sound(of) {
			t.Fatalf("%v is no tree", brief(of))
		}
		for from := 1; from <= notations; from++ {
			m.canAsModel(t, from, of)
			s := m.told(from, of)
			if s.Err != 0 {
				continue
			}
			m.holds(t, from, s.Text)
			for to := 1; to <= notations; to++ {
				want := m.told(to, of)
				tells(t, from, to, s.Text, want)
				if want.Err == 0 {
					told[from][to]++
				}
			}
		}
	}
	for from := 1; from <= notations; from++ {
		for to := 1; to <= notations; to++ {
			if told[from][to] < 10 {
				t.Errorf("%d texts from %d to %d", told[from][to], from, to)
			}
		}
	}
}

// P1, P13.1: any bytes: all texts of up to two, and longer ones by chance, are answered, with parse's error or a text.
func TestAnyBytes(t *testing.T) {
	t.Parallel()
	m := newModel()
	asked := func(s string, from, to int) {
		p := parse.Parse(from, s)
		want := api.Told{Err: p.Err, At: p.At}
		if p.Err == 0 {
			want = m.told(to, p.Tree)
		}
		tells(t, from, to, s, want)
	}
	for first := range 256 {
		for from := 1; from <= notations; from++ {
			for to := 1; to <= notations; to++ {
				asked(string([]byte{byte(first)}), from, to)
			}
			for second := range 256 {
				asked(string([]byte{byte(first), byte(second)}), from, 1+(first+second)%notations)
			}
		}
	}
	chance := rand.New(rand.NewSource(131))
	const often = "mms2/.*^-+(){}<>%gkPaCel[oH]10 \x00\xff"
	for range 4000 {
		b := make([]byte, chance.Intn(1<<chance.Intn(10)))
		for i := range b {
			b[i] = often[chance.Intn(len(often))]
			if chance.Intn(30) == 0 {
				b[i] = byte(chance.Intn(256))
			}
		}
		asked(string(b), 1+chance.Intn(notations), 1+chance.Intn(notations))
	}
}

// R4, R5: the same calls have the same answers; no text is too long to be answered.
func TestAgain(t *testing.T) {
	for _, s := range []string{"", "mmol/l", "mCel", "m{x}", "m)", "mg/xyz", strings.Repeat("a.", 127) + "a", strings.Repeat("m", 1<<24)} {
		for from := 0; from <= notations+1; from++ {
			for to := 0; to <= notations+1; to++ {
				if first, again := tell.Tell(from, to, s), tell.Tell(from, to, s); first != again {
					t.Errorf("Tell(%d, %d, %.300q), asked again: %s, want %s", from, to, s, shown(again), shown(first))
				}
			}
		}
	}
}
