package lex_test

import (
	"math"
	"math/big"
	"math/rand"
	"regexp"
	"slices"
	"strings"
	"testing"

	"drachm/api"
	"drachm/lex"
)

// noNotations are numbers that no notation has.
func noNotations() []int {
	return []int{math.MinInt, math.MinInt + 1, math.MinInt + 5, -5, -2, -1, 0, 6, 7, 256, 257, 1 << 32, 1<<32 + 1, math.MaxInt}
}

// allNotations are the five, and those that there are not.
func allNotations() []int { return append([]int{1, 2, 3, 4, 5}, noNotations()...) }

// part is a kind of token, and the texts that it has at the beginning of a text, as the document tells them.
type part struct {
	kind int
	text *regexp.Regexp
}

// grammars are the tokens of the five notations, written out from the document's tables.
var grammars = [6][]part{
	1: grammar(`\.`, ``, `\{([ -z|~]*)\}`),
	2: grammar(`\.`, ``, `\{([ -z|~]*)\}`),
	3: grammar(`\*`, `\^`, `<([ -;=?-~]*)>`),
	4: grammar(`\.`, ``, ``),
	5: grammar(`\.`, `\^`, ``),
}

func grammar(mul, pow, note string) []part {
	var out []part
	for i, text := range []string{`[A-Za-z%'_\[\]]+`, `[0-9]+`, `[+-]`, mul, `/`, pow, `\(`, `\)`, note} {
		if text != "" {
			out = append(out, part{i + 1, regexp.MustCompile(`^(?s:` + text + `)`)})
		}
	}
	return out
}

// tokens are what the document has of a text, and the place where they end.
func tokens(n int, s string) ([]api.Token, int) {
	if n < 1 || n > 5 {
		return nil, 0
	}
	var out []api.Token
	at := 0
	for at < len(s) {
		token, size, ok := first(n, s[at:])
		if !ok {
			break
		}
		token.At = at
		out = append(out, token)
		at += size
	}
	return out, at
}

// first is the token at the beginning of a text, and how many bytes it has there.
func first(n int, s string) (api.Token, int, bool) {
	for _, p := range grammars[n] {
		found := p.text.FindStringSubmatch(s)
		if found == nil {
			continue
		}
		out := api.Token{Kind: p.kind, Text: found[0]}
		switch p.kind {
		case 1:
			if n == 2 || n == 4 {
				out.Text = strings.ToUpper(found[0])
			}
		case 2:
			number, _ := new(big.Int).SetString(found[0], 10)
			if !number.IsInt64() {
				return api.Token{}, 0, false
			}
			out.N = number.Int64()
		case 9:
			out.Text = found[1]
		}
		return out, len(found[0]), true
	}
	return api.Token{}, 0, false
}

// lexed is what Lex has to tell.
func lexed(n int, s string) ([]api.Token, int, api.Errno) {
	if n < 1 || n > 5 {
		return nil, 0, 1
	}
	if len(s) > 255 {
		return nil, 0, 12
	}
	l, end := tokens(n, s)
	if end < len(s) {
		return nil, end, 14
	}
	return l, end, 0
}

func short(s string) string {
	if len(s) > 60 {
		return s[:60] + " and so on"
	}
	return s
}

// holds holds all calls against what the document says of one text, in one notation.
func holds(t *testing.T, n int, s string) {
	t.Helper()
	got, end, err := lex.Lex(n, s)
	if want, wantEnd, wantErr := lexed(n, s); !slices.Equal(got, want) || end != wantEnd || err != wantErr {
		t.Errorf("Lex(%d, %q): %v, %d, %d, want %v, %d, %d", n, short(s), got, end, err, want, wantEnd, wantErr)
	}
	told := slices.Collect(lex.Each(n, s))
	want, wantEnd := tokens(n, s)
	if !slices.Equal(told, want) {
		t.Errorf("Each(%d, %q): %v, want %v", n, short(s), told, want)
	}
	joinedAgain(t, n, s[:wantEnd], told)
}

// joinedAgain is P8.4: what was joined has the same tokens, and is as long as what it was.
func joinedAgain(t *testing.T, n int, s string, l []api.Token) {
	t.Helper()
	joined := lex.Join(n, l)
	if len(joined) != len(s) {
		t.Errorf("Join(%d, of %q): %q, of %d bytes, want %d", n, short(s), short(joined), len(joined), len(s))
	}
	if again := slices.Collect(lex.Each(n, joined)); !slices.Equal(again, l) {
		t.Errorf("Join(%d, of %q): %q, whose tokens are %v, want %v", n, short(s), short(joined), again, l)
	}
	if n == 1 || n == 3 || n == 5 {
		if joined != s {
			t.Errorf("Join(%d, of %q): %q", n, short(s), short(joined))
		}
	}
}

// P8.1, P8.2, P8.4: all texts of no, one and two bytes, in each notation.
func TestShortTexts(t *testing.T) {
	for n := 1; n <= 5; n++ {
		holds(t, n, "")
		for a := range 256 {
			holds(t, n, string([]byte{byte(a)}))
			for b := range 256 {
				holds(t, n, string([]byte{byte(a), byte(b)}))
			}
		}
	}
}

// P8.1, P8.2, P8.4: all texts of up to four bytes, of some of every kind.
func TestTextsOfEveryKind(t *testing.T) {
	const some = "aZ0.*/^(){}<>- \x00"
	for n := 1; n <= 5; n++ {
		texts := []string{""}
		for range 4 {
			var longer []string
			for _, s := range texts {
				for i := range len(some) {
					longer = append(longer, s+some[i:i+1])
				}
			}
			for _, s := range longer {
				holds(t, n, s)
			}
			texts = longer
		}
	}
}

// P8.1, P8.2, P8.4: longer texts, put together of pieces; the same ones each time.
func TestLongerTexts(t *testing.T) {
	pieces := []string{
		"m", "mol", "KG", "[in_i]", "mm[Hg]", "%", "a'", "0", "2", "007", "100", "9223372036854775807", "+", "-", ".", "/", "*", "^", "(", ")",
		"{x y}", "{}", "<x y>", "<>", "{<}", "<{>", "{a.b/(2)}", "<a*b^(2)>",
	}
	faults := []string{" ", "{", "}", "<", ">", "\x00", "\x7f", "\u00b5", "9223372036854775808", "{\x1f}", "<\x1f>", "{a{b}", "<a<b>"}
	chance := rand.New(rand.NewSource(1))
	for range 20000 {
		var s strings.Builder
		for range chance.Intn(12) {
			s.WriteString(pieces[chance.Intn(len(pieces))])
		}
		if chance.Intn(4) == 0 {
			s.WriteString(faults[chance.Intn(len(faults))] + pieces[chance.Intn(len(pieces))])
		}
		for n := 1; n <= 5; n++ {
			holds(t, n, s.String())
		}
	}
}

// told are tokens, written out as Lex has to tell them.
type told struct {
	n    int
	s    string
	want []api.Token
}

// P8.1: each kind of token, in each notation that has it, with its place, text and number.
func TestKindsWrittenOut(t *testing.T) {
	for _, x := range []told{
		{1, "mmol/l{x y}", []api.Token{{Kind: 1, At: 0, Text: "mmol"}, {Kind: 5, At: 4, Text: "/"}, {Kind: 1, At: 5, Text: "l"}, {Kind: 9, At: 6, Text: "x y"}}},
		{1, "", nil},
		{1, "aZ%'_[]", []api.Token{{Kind: 1, Text: "aZ%'_[]"}}},
		{2, "aZ%'_[]", []api.Token{{Kind: 1, Text: "AZ%'_[]"}}},
		{3, "aZ%'_[]", []api.Token{{Kind: 1, Text: "aZ%'_[]"}}},
		{4, "aZ%'_[]", []api.Token{{Kind: 1, Text: "AZ%'_[]"}}},
		{5, "aZ%'_[]", []api.Token{{Kind: 1, Text: "aZ%'_[]"}}},
		{1, "m2+-.", []api.Token{{Kind: 1, At: 0, Text: "m"}, {Kind: 2, At: 1, Text: "2", N: 2}, {Kind: 3, At: 2, Text: "+"}, {Kind: 3, At: 3, Text: "-"}, {Kind: 4, At: 4, Text: "."}}},
		{2, "m{Mol m}m", []api.Token{{Kind: 1, At: 0, Text: "M"}, {Kind: 9, At: 1, Text: "Mol m"}, {Kind: 1, At: 8, Text: "M"}}},
		{3, "m^-2*<{}>", []api.Token{{Kind: 1, At: 0, Text: "m"}, {Kind: 6, At: 1, Text: "^"}, {Kind: 3, At: 2, Text: "-"}, {Kind: 2, At: 3, Text: "2", N: 2}, {Kind: 4, At: 4, Text: "*"}, {Kind: 9, At: 5, Text: "{}"}}},
		{4, "(m.S)/2", []api.Token{{Kind: 7, At: 0, Text: "("}, {Kind: 1, At: 1, Text: "M"}, {Kind: 4, At: 2, Text: "."}, {Kind: 1, At: 3, Text: "S"}, {Kind: 8, At: 4, Text: ")"}, {Kind: 5, At: 5, Text: "/"}, {Kind: 2, At: 6, Text: "2", N: 2}}},
		{5, "m^2.s", []api.Token{{Kind: 1, At: 0, Text: "m"}, {Kind: 6, At: 1, Text: "^"}, {Kind: 2, At: 2, Text: "2", N: 2}, {Kind: 4, At: 3, Text: "."}, {Kind: 1, At: 4, Text: "s"}}},
		{5, "^^", []api.Token{{Kind: 6, At: 0, Text: "^"}, {Kind: 6, At: 1, Text: "^"}}},
		{1, "((..//))", []api.Token{{Kind: 7, At: 0, Text: "("}, {Kind: 7, At: 1, Text: "("}, {Kind: 4, At: 2, Text: "."}, {Kind: 4, At: 3, Text: "."}, {Kind: 5, At: 4, Text: "/"}, {Kind: 5, At: 5, Text: "/"}, {Kind: 8, At: 6, Text: ")"}, {Kind: 8, At: 7, Text: ")"}}},
		{1, "{}{a}", []api.Token{{Kind: 9, At: 0}, {Kind: 9, At: 2, Text: "a"}}},
		{3, "<><a>", []api.Token{{Kind: 9, At: 0}, {Kind: 9, At: 2, Text: "a"}}},
		{1, "{ ~<>}", []api.Token{{Kind: 9, At: 0, Text: " ~<>"}}},
	} {
		got, end, err := lex.Lex(x.n, x.s)
		if !slices.Equal(got, x.want) || end != len(x.s) || err != api.OK {
			t.Errorf("Lex(%d, %q): %v, %d, %d, want %v", x.n, x.s, got, end, err, x.want)
		}
		if each := slices.Collect(lex.Each(x.n, x.s)); !slices.Equal(each, x.want) {
			t.Errorf("Each(%d, %q): %v, want %v", x.n, x.s, each, x.want)
		}
	}
}

// P8.1: numbers, with their texts as they stand there, up to MaxWhole; above it no token stands there.
func TestNumbers(t *testing.T) {
	const most = "9223372036854775807"
	for _, x := range []struct {
		s  string
		n  int64
		ok bool
	}{
		{"0", 0, true}, {"00", 0, true}, {"1", 1, true}, {"007", 7, true}, {"10", 10, true}, {most, math.MaxInt64, true}, {"000" + most, math.MaxInt64, true},
		{strings.Repeat("0", 236) + most, math.MaxInt64, true}, {strings.Repeat("0", 255), 0, true},
		{"9223372036854775808", 0, false}, {"0009223372036854775808", 0, false}, {"9223372036854775809", 0, false}, {"9999999999999999999", 0, false},
		{"18446744073709551615", 0, false}, {"18446744073709551616", 0, false}, {"18446744073709551617", 0, false}, {most + "0", 0, false},
		{strings.Repeat("9", 255), 0, false}, {"1" + strings.Repeat("0", 254), 0, false}, {strings.Repeat("0", 235) + most + "1", 0, false},
	} {
		for n := 1; n <= 5; n++ {
			got, end, err := lex.Lex(n, x.s)
			if x.ok && (!slices.Equal(got, []api.Token{{Kind: 2, Text: x.s, N: x.n}}) || end != len(x.s) || err != 0) {
				t.Errorf("Lex(%d, %q): %v, %d, %d", n, x.s, got, end, err)
			}
			if !x.ok && (len(got) != 0 || end != 0 || err != 14) {
				t.Errorf("Lex(%d, %q): %v, %d, %d, want ErrSyntax at 0", n, x.s, got, end, err)
			}
			holds(t, n, "m"+x.s)
			holds(t, n, "m-"+x.s+"/s")
		}
	}
}

// P8.1: the first place at which no token stands: what is no byte of the notation, a note that is not one, a number that is too great.
func TestPlaces(t *testing.T) {
	for _, x := range []struct {
		s string
		// at is the place, by notations from 1 on; -1, if tokens stand everywhere.
		at [6]int
	}{
		{"m ", [6]int{1: 1, 2: 1, 3: 1, 4: 1, 5: 1}},
		{" m", [6]int{}},
		{"m^2", [6]int{1: 1, 2: 1, 3: -1, 4: 1, 5: -1}},
		{"m*s", [6]int{1: 1, 2: 1, 3: -1, 4: 1, 5: 1}},
		{"m.s", [6]int{1: -1, 2: -1, 3: 1, 4: -1, 5: -1}},
		{"ms{x}", [6]int{1: -1, 2: -1, 3: 2, 4: 2, 5: 2}},
		{"ms<x>", [6]int{1: 2, 2: 2, 3: -1, 4: 2, 5: 2}},
		{"{}", [6]int{1: -1, 2: -1}},
		{"<>", [6]int{3: -1}},
		{"m{", [6]int{1: 1, 2: 1, 3: 1, 4: 1, 5: 1}},
		{"m<", [6]int{1: 1, 2: 1, 3: 1, 4: 1, 5: 1}},
		{"m{x", [6]int{1: 1, 2: 1, 3: 1, 4: 1, 5: 1}},
		{"m<x", [6]int{1: 1, 2: 1, 3: 1, 4: 1, 5: 1}},
		{"m}", [6]int{1: 1, 2: 1, 3: 1, 4: 1, 5: 1}},
		{"m>", [6]int{1: 1, 2: 1, 3: 1, 4: 1, 5: 1}},
		{"m{x}}", [6]int{1: 4, 2: 4, 3: 1, 4: 1, 5: 1}},
		{"m<x>>", [6]int{1: 1, 2: 1, 3: 4, 4: 1, 5: 1}},
		{"m{a{b}", [6]int{1: 1, 2: 1, 3: 1, 4: 1, 5: 1}},
		{"m{a{b}}", [6]int{1: 1, 2: 1, 3: 1, 4: 1, 5: 1}},
		{"m<a<b>", [6]int{1: 1, 2: 1, 3: 1, 4: 1, 5: 1}},
		{"m{a<b}", [6]int{1: -1, 2: -1, 3: 1, 4: 1, 5: 1}},
		{"m<a{b>", [6]int{1: 1, 2: 1, 3: -1, 4: 1, 5: 1}},
		{"m{\x1f}", [6]int{1: 1, 2: 1, 3: 1, 4: 1, 5: 1}},
		{"m{\x20}", [6]int{1: -1, 2: -1, 3: 1, 4: 1, 5: 1}},
		{"m{\x7e}", [6]int{1: -1, 2: -1, 3: 1, 4: 1, 5: 1}},
		{"m{\x7f}", [6]int{1: 1, 2: 1, 3: 1, 4: 1, 5: 1}},
		{"m<\x1f>", [6]int{1: 1, 2: 1, 3: 1, 4: 1, 5: 1}},
		{"m<\x20>", [6]int{1: 1, 2: 1, 3: -1, 4: 1, 5: 1}},
		{"m<\x7e>", [6]int{1: 1, 2: 1, 3: -1, 4: 1, 5: 1}},
		{"m<\x7f>", [6]int{1: 1, 2: 1, 3: 1, 4: 1, 5: 1}},
		{"m\x00", [6]int{1: 1, 2: 1, 3: 1, 4: 1, 5: 1}},
		{"\x00m\x00", [6]int{}},
		{"m{\x00}", [6]int{1: 1, 2: 1, 3: 1, 4: 1, 5: 1}},
		{"\u00b5m", [6]int{}},
		{"m\u00b5", [6]int{1: 1, 2: 1, 3: 1, 4: 1, 5: 1}},
		{"m\xff", [6]int{1: 1, 2: 1, 3: 1, 4: 1, 5: 1}},
		{"m{\u00b5}", [6]int{1: 1, 2: 1, 3: 1, 4: 1, 5: 1}},
		{"m\u212a", [6]int{1: 1, 2: 1, 3: 1, 4: 1, 5: 1}},
		{"kg/9223372036854775808 ", [6]int{1: 3, 2: 3, 3: 3, 4: 3, 5: 3}},
		{"m 9223372036854775808", [6]int{1: 1, 2: 1, 3: 1, 4: 1, 5: 1}},
	} {
		for n := 1; n <= 5; n++ {
			want, wantErr := x.at[n], api.ErrSyntax
			if want < 0 {
				want, wantErr = len(x.s), api.OK
			}
			got, at, err := lex.Lex(n, x.s)
			if at != want || err != wantErr || err != api.OK && len(got) != 0 {
				t.Errorf("Lex(%d, %q): %v, %d, %d, want %d, %d", n, x.s, got, at, err, want, wantErr)
			}
			holds(t, n, x.s)
		}
	}
}

// P8.1, R2: ErrArg ahead of ErrLong ahead of ErrSyntax; with the first two nothing else is told.
func TestErrorsInOrder(t *testing.T) {
	long := strings.Repeat("m", 256)
	for _, n := range noNotations() {
		for _, s := range []string{"", "m", "m ", " ", long, long + " ", "\x00", strings.Repeat(" ", 256)} {
			if l, at, err := lex.Lex(n, s); len(l) != 0 || at != 0 || err != api.ErrArg {
				t.Errorf("Lex(%d, %q): %v, %d, %d, want ErrArg", n, short(s), l, at, err)
			}
		}
	}
	for n := 1; n <= 5; n++ {
		for _, s := range []string{long, " " + long, strings.Repeat(" ", 256), strings.Repeat("9", 256), strings.Repeat("(", 1<<20), strings.Repeat("\u00b5", 128)} {
			if l, at, err := lex.Lex(n, s); len(l) != 0 || at != 0 || err != api.ErrLong {
				t.Errorf("Lex(%d, %q): %v, %d, %d, want ErrLong", n, short(s), l, at, err)
			}
		}
	}
}

// P8.1: 255 bytes are not too many: as one token, as so many, with a fault at the end.
func TestLongestTexts(t *testing.T) {
	for n := 1; n <= 5; n++ {
		for _, s := range []string{
			strings.Repeat("m", 255), strings.Repeat("(", 255), strings.Repeat("m1", 127) + "/", strings.Repeat("0", 255), strings.Repeat("/", 254) + " ",
			"{" + strings.Repeat("x", 253) + "}", "<" + strings.Repeat("x", 253) + ">", "{" + strings.Repeat("x", 254), strings.Repeat("{}", 127) + "m", strings.Repeat("<>", 127) + "m",
		} {
			if len(s) != 255 {
				t.Fatalf("%d bytes", len(s))
			}
			holds(t, n, s)
			holds(t, n, s+"m")
		}
		if l, end, err := lex.Lex(n, strings.Repeat("(", 255)); len(l) != 255 || end != 255 || err != api.OK {
			t.Errorf("Lex in notation %d of 255 brackets: %d tokens, %d, %d", n, len(l), end, err)
		}
	}
}

// P8.2, R5: one by one tokens are told of a text of any length, up to where none stands any more.
func TestEachOfLongTexts(t *testing.T) {
	for n := 1; n <= 5; n++ {
		for _, s := range []string{
			strings.Repeat("m", 256), strings.Repeat("m", 1<<20), strings.Repeat("m/s2", 1<<16), strings.Repeat("m/s2", 1<<12) + " " + strings.Repeat("m", 1<<12),
			strings.Repeat("0", 1<<20) + "5", "m" + strings.Repeat("9", 1<<12), strings.Repeat("{", 1<<20), strings.Repeat("<", 1<<20), strings.Repeat("{}", 1<<12),
			"{" + strings.Repeat("x", 1<<20) + "}", "<" + strings.Repeat("x", 1<<20) + ">", "m{" + strings.Repeat("x", 1<<20), "m<" + strings.Repeat("x", 1<<20),
		} {
			holds(t, n, s)
		}
	}
	if got := slices.Collect(lex.Each(1, strings.Repeat("m/s2", 1<<10)+" m")); len(got) != 4<<10 || got[4<<10-1] != (api.Token{Kind: 2, At: 4<<10 - 1, Text: "2", N: 2}) {
		t.Errorf("%d tokens", len(got))
	}
}

// P8.2, R1: in a notation that there is not there are no tokens; what is told one by one is never nil.
func TestEachIsNeverNil(t *testing.T) {
	for _, n := range allNotations() {
		for _, s := range []string{"", " ", "m", "m/s", strings.Repeat("m ", 1<<10)} {
			each := lex.Each(n, s)
			if each == nil {
				t.Fatalf("Each(%d, %q) is nil", n, short(s))
			}
			want, _ := tokens(n, s)
			if got := slices.Collect(each); !slices.Equal(got, want) {
				t.Errorf("Each(%d, %q): %v, want %v", n, short(s), got, want)
			}
		}
	}
}

// R1: tokens may be left off at each place, and gone over again, also while they are gone over.
func TestEachLeftOff(t *testing.T) {
	for n := 1; n <= 5; n++ {
		for _, s := range []string{"mm-2.(7/s)", "m^2*s<x>(3", "m2{a}{b}/s.k", "m/s m", strings.Repeat("m/", 200)} {
			each := lex.Each(n, s)
			want, _ := tokens(n, s)
			for stop := range len(want) + 1 {
				var got []api.Token
				for token := range each {
					got = append(got, token)
					if len(got) > stop {
						break
					}
				}
				if !slices.Equal(got, want[:min(stop+1, len(want))]) {
					t.Errorf("Each(%d, %q), left off behind %d: %v", n, short(s), stop, got)
				}
			}
			for range 2 {
				if got := slices.Collect(each); !slices.Equal(got, want) {
					t.Errorf("Each(%d, %q), gone over again: %v, want %v", n, short(s), got, want)
				}
			}
			var inner []api.Token
			for range each {
				inner = append(inner, slices.Collect(each)...)
			}
			if !slices.Equal(inner, slices.Repeat(want, len(want))) {
				t.Errorf("Each(%d, %q), gone over within itself: %v", n, short(s), inner)
			}
		}
	}
}

// R1: who leaves off is not told of another token.
func TestEachStops(t *testing.T) {
	for stop := 1; stop <= 5; stop++ {
		calls := 0
		lex.Each(1, "m.s.k")(func(api.Token) bool {
			calls++
			return calls < stop
		})
		if calls != stop {
			t.Errorf("told %d times, want %d", calls, stop)
		}
	}
}

// R3: the tokens that were told are the caller's: who changes them changes no other ones.
func TestTokensAreTheCallers(t *testing.T) {
	first, _, _ := lex.Lex(1, "m2/s")
	second, _, _ := lex.Lex(1, "m2/s")
	for i := range first {
		first[i] = api.Token{Kind: -1, At: -1, Text: "x", N: -1}
	}
	if want, _ := tokens(1, "m2/s"); !slices.Equal(second, want) {
		t.Errorf("%v, want %v", second, want)
	}
}

// joined is what Join has to tell: bytes of notes are those of the style, 0 where it has none.
func joined(n int, l []api.Token) string {
	opens, closes := [6]byte{1: '{', 2: '{', 3: '<'}, [6]byte{1: '}', 2: '}', 3: '>'}
	if n < 1 || n > 5 {
		n = 0
	}
	var out []byte
	for _, token := range l {
		if token.Kind == 9 {
			out = append(append(append(out, opens[n]), token.Text...), closes[n])
		} else {
			out = append(out, token.Text...)
		}
	}
	return string(out)
}

// P8.3: rows joined that no text has: any kinds, any texts, any places and numbers, in any notation.
func TestJoinAnyRows(t *testing.T) {
	kinds := []int{math.MinInt, -9, -1, 0, 1, 2, 3, 4, 5, 6, 7, 8, 9, 10, 11, 265, 1<<32 + 9, math.MaxInt}
	texts := []string{"", "m", "Mol", "a b", "{", "}", "<>", "{x}", "\x00", "\xff", "\u00b5", "007", strings.Repeat("x", 300)}
	for _, n := range allNotations() {
		var all []api.Token
		for i, kind := range kinds {
			for j, text := range texts {
				token := api.Token{Kind: kind, At: (i - 5) * 1000, Text: text, N: int64(j - 5)}
				all = append(all, token)
				if got, want := lex.Join(n, []api.Token{token}), joined(n, []api.Token{token}); got != want {
					t.Errorf("Join(%d, %v): %q, want %q", n, token, short(got), short(want))
				}
			}
		}
		kept := slices.Clone(all)
		if got, want := lex.Join(n, all), joined(n, all); got != want {
			t.Errorf("Join(%d, of all): %q", n, short(got))
		}
		if !slices.Equal(all, kept) {
			t.Errorf("Join(%d, of all) changed them", n)
		}
		slices.Reverse(all)
		if got, want := lex.Join(n, all), joined(n, all); got != want {
			t.Errorf("Join(%d, of all, turned round): %q", n, short(got))
		}
	}
}

// P8.3, R1: no tokens have the empty text.
func TestJoinNothing(t *testing.T) {
	for _, n := range allNotations() {
		if a, b, c := lex.Join(n, nil), lex.Join(n, []api.Token{}), lex.Join(n, make([]api.Token, 3)); a != "" || b != "" || c != "" {
			t.Errorf("Join(%d, nothing): %q, %q, %q", n, a, b, c)
		}
	}
}

// P8.3: some joined texts, written out; what was told in one notation may be joined in another.
func TestJoinWrittenOut(t *testing.T) {
	note := func(text string) api.Token { return api.Token{Kind: api.TokNote, Text: text} }
	sym := func(text string) api.Token { return api.Token{Kind: api.TokSym, Text: text} }
	for _, x := range []struct {
		n    int
		l    []api.Token
		want string
	}{
		{1, []api.Token{sym("m"), note("x y")}, "m{x y}"},
		{2, []api.Token{sym("m"), note("x y")}, "m{x y}"},
		{3, []api.Token{sym("m"), note("x y")}, "m<x y>"},
		{4, []api.Token{sym("m"), note("x y")}, "m\x00x y\x00"},
		{5, []api.Token{sym("m"), note("x y")}, "m\x00x y\x00"},
		{0, []api.Token{sym("m"), note("x y")}, "m\x00x y\x00"},
		{6, []api.Token{sym("m"), note("")}, "m\x00\x00"},
		{1, []api.Token{note(""), note("{")}, "{}{{}"},
		{1, []api.Token{sym("m"), sym("s")}, "ms"},
		{1, []api.Token{{Kind: api.TokNum, Text: "007", N: 8}}, "007"},
		{1, []api.Token{{Kind: api.TokNum, N: 8}}, ""},
		{1, []api.Token{{Kind: api.TokMul, Text: "*"}, {Kind: api.TokLeft, Text: "no bracket"}}, "*no bracket"},
	} {
		if got := lex.Join(x.n, x.l); got != x.want {
			t.Errorf("Join(%d, %v): %q, want %q", x.n, x.l, got, x.want)
		}
	}
}

// P8.4: a text that was joined, written out: raised letters stay raised, notes and noughts stay as they were.
func TestJoinedAgainWrittenOut(t *testing.T) {
	for _, x := range []struct {
		n       int
		s, want string
	}{
		{1, "mm[Hg]-2.(007/s){Ok}", "mm[Hg]-2.(007/s){Ok}"},
		{2, "mm[Hg]-2.(007/s){Ok}", "MM[HG]-2.(007/S){Ok}"},
		{3, "mm[Hg]^-2*(007/s)<Ok>", "mm[Hg]^-2*(007/s)<Ok>"},
		{4, "mm[Hg]-2.(007/s)", "MM[HG]-2.(007/S)"},
		{5, "mm[Hg]^-2.(007/s)", "mm[Hg]^-2.(007/s)"},
	} {
		before, size, err := lex.Lex(x.n, x.s)
		if err != api.OK || size != len(x.s) {
			t.Fatalf("Lex(%d, %q): %d, %d", x.n, x.s, size, err)
		}
		text := lex.Join(x.n, before)
		if text != x.want {
			t.Errorf("Join(%d, of %q): %q, want %q", x.n, x.s, text, x.want)
		}
		if again, size, err := lex.Lex(x.n, text); !slices.Equal(again, before) || size != len(x.s) || err != api.OK {
			t.Errorf("Lex(%d, %q): %v, %d, %d, want %v", x.n, text, again, size, err, before)
		}
	}
}

// The document's examples.
func TestExamples(t *testing.T) {
	l, size, err := lex.Lex(1, "mmol/l{x y}")
	var texts []string
	for _, token := range l {
		texts = append(texts, token.Text)
	}
	if !slices.Equal(texts, []string{"mmol", "/", "l", "x y"}) || size != 11 || err != api.OK {
		t.Errorf("%q, %d, %d", texts, size, err)
	}
	if l, at, err := lex.Lex(1, "m "); len(l) != 0 || at != 1 || err != api.ErrSyntax {
		t.Errorf("%v, %d, %d", l, at, err)
	}
}
