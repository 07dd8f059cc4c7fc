package style_test

import (
	"math"
	"strings"
	"testing"

	"drachm/api"
	"drachm/style"
)

// row is what the document's table says of a notation; a byte that is not there is 0.
type row struct {
	n                          int
	fold                       bool
	mul, div, pow, open, close byte
}

func rows() []row {
	return []row{
		{1, false, '.', '/', 0, '{', '}'},
		{2, true, '.', '/', 0, '{', '}'},
		{3, false, '*', '/', '^', '<', '>'},
		{4, true, '.', '/', 0, 0, 0},
		{5, false, '.', '/', '^', 0, 0},
	}
}

// noNotations are numbers that no notation has.
func noNotations() []int {
	return []int{0, -1, -2, -5, 6, 7, 10, 257, 1 << 32, 1<<32 + 1, math.MaxInt, math.MinInt, math.MinInt + 1, math.MinInt + 5}
}

// allNotations are the five, and those that there are not.
func allNotations() []int { return append([]int{1, 2, 3, 4, 5}, noNotations()...) }

// everyByte is a text of all 256 bytes, from 0 up.
func everyByte() string {
	var out [256]byte
	for c := range out {
		out[c] = byte(c)
	}
	return string(out[:])
}

// texts are some of every kind: none, short ones, edges of the letters, what is no ASCII, what is no UTF-8, long ones.
func texts() []string {
	all := everyByte()
	return []string{
		"", "m", "M", "mol", "Mol'x", "[in_i]", "[IN_I]", "kg.m/s2{a b}", "(m)", "@AZ[`az{", "\x00", "a\x00b",
		"\u00e9\u00df\u03bc", "\u017f\u0131\u212a", "\u00e4a\u00c4A", "a\xffb", "\xc3", "\xe1\xba", "\xf0\x9f\x98a", "\u2028z",
		all, all + all, strings.Repeat("a", 256), strings.Repeat("mol/L ", 20000), strings.Repeat(all, 300), strings.Repeat("\x80z", 1<<16),
	}
}

// P7.1: each notation's style has what the document's table says, field by field.
func TestOf(t *testing.T) {
	for _, r := range rows() {
		got, ok := style.Of(r.n)
		if !ok {
			t.Errorf("Of(%d): there is none", r.n)
		}
		if got.Fold != r.fold {
			t.Errorf("Of(%d): Fold %t, want %t", r.n, got.Fold, r.fold)
		}
		for _, field := range []struct {
			name      string
			got, want byte
		}{
			{"Mul", got.Mul, r.mul}, {"Div", got.Div, r.div}, {"Pow", got.Pow, r.pow}, {"Open", got.Open, r.open}, {"Close", got.Close, r.close},
		} {
			if field.got != field.want {
				t.Errorf("Of(%d): %s %q, want %q", r.n, field.name, field.got, field.want)
			}
		}
	}
}

// P7.1: where there is no such notation, the style is the zero one, and false.
func TestOfNone(t *testing.T) {
	for _, n := range noNotations() {
		if got, ok := style.Of(n); ok || got != (api.Style{}) {
			t.Errorf("Of(%d): %v, %t", n, got, ok)
		}
	}
}

// R3: a style that was told is the caller's: who changes it changes no other one.
func TestOfIsTheCallers(t *testing.T) {
	for _, r := range rows() {
		first, _ := style.Of(r.n)
		kept := first
		first.Mul, first.Open, first.Fold = 'x', 'y', !first.Fold
		if again, _ := style.Of(r.n); again != kept {
			t.Errorf("Of(%d): %v, want %v", r.n, again, kept)
		}
	}
}

// kindsOf are the kinds that the document gives a byte in a notation: each one that it names, not the first alone.
func kindsOf(r row, c byte) []int {
	var out []int
	add := func(kind int, is bool) {
		if is {
			out = append(out, kind)
		}
	}
	is := func(set string) bool { return strings.IndexByte(set, c) >= 0 }
	add(1, is("ABCDEFGHIJKLMNOPQRSTUVWXYZabcdefghijklmnopqrstuvwxyz%'_[]"))
	add(2, is("0123456789"))
	add(3, is("+-"))
	add(4, c != 0 && c == r.mul)
	add(5, c != 0 && c == r.div)
	add(6, c != 0 && c == r.pow)
	add(7, is("("))
	add(8, is(")"))
	add(9, c != 0 && c == r.open)
	add(10, c != 0 && c == r.close)
	return out
}

// P7.2, P7.4: each of the 256 bytes has the one kind that the document names for it in each notation, or none.
func TestKind(t *testing.T) {
	for _, r := range rows() {
		for c := range 256 {
			want := 0
			kinds := kindsOf(r, byte(c))
			if len(kinds) > 1 {
				t.Fatalf("byte %d is of the kinds %v in notation %d", c, kinds, r.n)
			}
			if len(kinds) == 1 {
				want = kinds[0]
			}
			if got := style.Kind(r.n, byte(c)); got != want {
				t.Errorf("Kind(%d, %q): %d, want %d", r.n, byte(c), got, want)
			}
		}
	}
}

// P7.2: byte 0 is none, also where a style has no Pow, Open or Close; and what is another notation's own is none here.
func TestKindOfWhatIsNotThere(t *testing.T) {
	for _, x := range []struct {
		n     int
		bytes string
	}{
		{1, "\x00^*<>"}, {2, "\x00^*<>"}, {3, "\x00.{}"}, {4, "\x00^*{}<>"}, {5, "\x00*{}<>"},
	} {
		for at := range len(x.bytes) {
			if got := style.Kind(x.n, x.bytes[at]); got != api.ByteNone {
				t.Errorf("Kind(%d, %q): %d, want 0", x.n, x.bytes[at], got)
			}
		}
	}
}

// P7.2: bytes beside those that have a kind are none: spaces, ends of lines, and all that is no ASCII.
func TestKindOfNeighbours(t *testing.T) {
	for n := 1; n <= 5; n++ {
		for _, c := range []byte("@`,:;=?!\"#$&\\|~ \t\n\r\x7f\x80\xc1\xe1\xff") {
			if got := style.Kind(n, c); got != api.ByteNone {
				t.Errorf("Kind(%d, %q): %d, want 0", n, c, got)
			}
		}
	}
}

// P7.2: in a notation that there is not, no byte is anything.
func TestKindInNoNotation(t *testing.T) {
	for _, n := range noNotations() {
		for c := range 256 {
			if got := style.Kind(n, byte(c)); got != api.ByteNone {
				t.Errorf("Kind(%d, %q): %d, want 0", n, byte(c), got)
			}
		}
	}
}

// raised is what Raise has to tell, byte by byte, in notations that fold.
func raised(s string) string {
	var out strings.Builder
	for at := range len(s) {
		if place := strings.IndexByte("abcdefghijklmnopqrstuvwxyz", s[at]); place >= 0 {
			out.WriteByte("ABCDEFGHIJKLMNOPQRSTUVWXYZ"[place])
		} else {
			out.WriteByte(s[at])
		}
	}
	return out.String()
}

func short(s string) string {
	if len(s) > 40 {
		return s[:40] + " and so on"
	}
	return s
}

// P7.3: small letters of ASCII are raised in Folded and Iso, and nothing else is changed; in the other notations, and where there is none, the text stays as it is.
func TestRaise(t *testing.T) {
	for _, n := range allNotations() {
		for _, s := range texts() {
			want := s
			if n == api.Folded || n == api.Iso {
				want = raised(s)
			}
			if got := style.Raise(n, s); got != want {
				t.Errorf("Raise(%d, %q): %q", n, short(s), short(got))
			}
		}
	}
}

// P7.3: some raised texts, written out.
func TestRaiseWrittenOut(t *testing.T) {
	for _, x := range []struct {
		n       int
		s, want string
	}{
		{4, "mol", "MOL"}, {2, "mol", "MOL"}, {1, "mol", "mol"}, {3, "mol", "mol"}, {5, "mol", "mol"}, {0, "mol", "mol"}, {6, "mol", "mol"},
		{2, "Mol'x", "MOL'X"}, {4, "@`az{AZ[", "@`AZ{AZ["}, {2, "[in_i]%", "[IN_I]%"}, {2, "\u00e9", "\u00e9"}, {4, "a\xffb", "A\xffB"}, {4, "", ""},
	} {
		if got := style.Raise(x.n, x.s); got != x.want {
			t.Errorf("Raise(%d, %q): %q, want %q", x.n, x.s, got, x.want)
		}
	}
}

// P7.4: what is raised twice is raised once, and is as long as what it was.
func TestRaiseTwice(t *testing.T) {
	for _, n := range allNotations() {
		for _, s := range texts() {
			once := style.Raise(n, s)
			if len(once) != len(s) {
				t.Errorf("Raise(%d, %q): %d bytes, want %d", n, short(s), len(once), len(s))
			}
			if twice := style.Raise(n, once); twice != once {
				t.Errorf("Raise(%d, %q): %q, raised again", n, short(once), short(twice))
			}
		}
	}
}

// mayBeNote is what Plain has to tell.
func mayBeNote(n int, s string) bool {
	for _, r := range rows() {
		if r.n != n || r.open == 0 {
			continue
		}
		for at := range len(s) {
			if s[at] < 32 || s[at] > 126 || s[at] == r.open || s[at] == r.close {
				return false
			}
		}
		return true
	}
	return false
}

// P7.3: each byte alone, and at the beginning, the middle and the end of a text, may stand in a note just if the document says so.
func TestPlainByBytes(t *testing.T) {
	for _, n := range allNotations() {
		for c := range 256 {
			one := string([]byte{byte(c)})
			for _, s := range []string{one, one + "ab", "a" + one + "b", "ab" + one, strings.Repeat("ab ", 3000) + one} {
				if got, want := style.Plain(n, s), mayBeNote(n, s); got != want {
					t.Errorf("Plain(%d, %q): %t, want %t", n, short(s), got, want)
				}
			}
		}
	}
}

// P7.3: texts of every kind may be a note's just if the document says so.
func TestPlain(t *testing.T) {
	for _, n := range allNotations() {
		for _, s := range texts() {
			if got, want := style.Plain(n, s), mayBeNote(n, s); got != want {
				t.Errorf("Plain(%d, %q): %t, want %t", n, short(s), got, want)
			}
		}
	}
}

// P7.3: the edges, written out: bytes 31, 32, 126 and 127, Open and Close of each style, the empty text, notations that have no notes, and those that there are not.
func TestPlainWrittenOut(t *testing.T) {
	for _, x := range []struct {
		s    string
		want [7]bool
	}{
		{"", [7]bool{1: true, 2: true, 3: true}},
		{"a b", [7]bool{1: true, 2: true, 3: true}},
		{"(m)./*^+-%[]", [7]bool{1: true, 2: true, 3: true}},
		{" ", [7]bool{1: true, 2: true, 3: true}},
		{"~", [7]bool{1: true, 2: true, 3: true}},
		{"\x1f", [7]bool{}},
		{"\x7f", [7]bool{}},
		{"\x00", [7]bool{}},
		{"\u00e9", [7]bool{}},
		{"{", [7]bool{3: true}},
		{"}", [7]bool{3: true}},
		{"<", [7]bool{1: true, 2: true}},
		{">", [7]bool{1: true, 2: true}},
		{"{<", [7]bool{}},
	} {
		for n, want := range x.want {
			if got := style.Plain(n, x.s); got != want {
				t.Errorf("Plain(%d, %q): %t, want %t", n, x.s, got, want)
			}
		}
	}
}

// The document's examples.
func TestExamples(t *testing.T) {
	if a, b, c := style.Kind(3, '*'), style.Kind(1, '*'), style.Raise(4, "mol"); a != 4 || b != 0 || c != "MOL" {
		t.Errorf("%d, %d, %q", a, b, c)
	}
}
