package parse_test

import (
	"math"
	"math/rand"
	"slices"
	"strings"
	"testing"

	"drachm/api"
	"drachm/lex"
	"drachm/parse"
)

// sample are tokens by letters: s is a symbol, q one that is none, 0 1 9 are numbers from 0 to 99, h is 100, n one below 0; + and - are signs; . / ^ ( ) the style's own and brackets; { is a note; ? and ! are of no kind.
func sample(letter byte) api.Token {
	numbers := map[byte]int64{'0': 0, '1': 1, '9': 99, 'h': 100, 'n': -1}
	kinds := map[byte]int{'.': tokMul, '/': tokDiv, '^': tokPow, '(': tokLeft, ')': tokRight, '+': tokSign, '-': tokSign, '?': 0, '!': 10}
	if number, ok := numbers[letter]; ok {
		return api.Token{Kind: tokNum, N: number}
	}
	switch letter {
	case 's':
		return api.Token{Kind: tokSym, Text: "M"}
	case 'm':
		return api.Token{Kind: tokSym, Text: "m"}
	case 'q':
		return api.Token{Kind: tokSym, Text: "qq"}
	case '{':
		return api.Token{Kind: tokNote, Text: "note"}
	}
	return api.Token{Kind: kinds[letter], Text: string(letter)}
}

const letters = "sq019hn+-./^(){?!"

// row are tokens by letters, each at a place of its own.
func row(n int, of string) []api.Token {
	var out []api.Token
	for i := range len(of) {
		out = append(out, placed(n, of[i], i))
	}
	return out
}

// placed is a token at a place that tells which one of the row it is; the metre has another letter where none is raised.
func placed(n int, letter byte, i int) api.Token {
	if letter == 's' && n != 2 && n != 4 {
		letter = 'm'
	}
	out := sample(letter)
	out.At = 1000 + 7*i
	return out
}

// P11.1: what may stand at each place of the grammar, and behind it (`$`: the end); all else is refused there.
func TestWhatMayStand(t *testing.T) {
	const item = "sq19h({"
	places := map[string]string{
		"": item + "/", "/": item, "s.": item, "s/": item, "{/": item, "(": item + "/", "(/": item, "s/(": item + "/", "((": item + "/", "(s.": item,
		"1": "./{$", "h": "./{$", "(s)": "./{$", "((s))": "./{$", "(1": "./{)", "((s)": "./{)", "({)": "./{$", "/1": "./{$", "s/1": "./{$", "(s){": "./$",
		"{": "./$", "1{": "./$", "s{": "./$", "({": "./)", "(s{": "./)", "(1{": "./)", "/{": "./$", "s.{": "./$",
	}
	symbols := map[string]string{"s": "019+-./{$", "q": "019+-./{$", "/s": "019+-./{$", "s.s": "019+-./{$", "(s": "019+-./{)", "s-": "019", "s+": "019", "(s-": "019", "s0": "./{$", "s9": "./{$", "s-0": "./{$", "s-9": "./{$", "s+1": "./{$", "(s1": "./{)", "s1{": "./$", "s/s-1": "./{$", "(s-1)": "./{$"}
	raised := map[string]string{"s": "^./{$", "q": "^./{$", "/s": "^./{$", "s.s": "^./{$", "(s": "^./{)", "s^": "019+-", "(s^": "019+-", "s^-": "019", "s^+": "019", "(s^-": "019", "s^0": "./{$", "s^9": "./{$", "s^-0": "./{$", "s^-9": "./{$", "s^+1": "./{$", "(s^1": "./{)", "s^1{": "./$", "s/s^-1": "./{$", "(s^-1)": "./{$"}
	for n := 1; n <= notations; n++ {
		standsAt(t, n, places)
		if hasPow(n) {
			standsAt(t, n, raised)
		} else {
			standsAt(t, n, symbols)
		}
	}
}

func standsAt(t *testing.T, n int, places map[string]string) {
	t.Helper()
	const size = 77777
	for ahead, may := range places {
		for i := range len(letters) {
			l := row(n, ahead+letters[i:i+1])
			at := l[len(l)-1].At
			got := parse.Tree(n, l, size)
			if can := got.Err != errSyntax || got.At == size; can != strings.Contains(may, letters[i:i+1]) {
				t.Errorf("Tree(%d, %s, then %c): %v", n, ahead, letters[i], got)
			} else if !can && !same(got, api.Parsed{Err: errSyntax, At: at}) {
				t.Errorf("Tree(%d, %s, then %c): %v, want ErrSyntax at %d", n, ahead, letters[i], got, at)
			}
		}
		got := parse.Tree(n, row(n, ahead), size)
		if may := strings.Contains(may, "$"); may != (got.Err != errSyntax) || !may && !same(got, api.Parsed{Err: errSyntax, At: size}) {
			t.Errorf("Tree(%d, %s): %v", n, ahead, got)
		}
	}
}

// P11.1: all rows of up to five tokens, of each kind; behind the first one that can't stand there one more is looked at.
func TestAllShortRows(t *testing.T) {
	for n := 1; n <= notations; n++ {
		longest := 3
		if n == 1 || n == 5 {
			longest = 5
		}
		var grow func(of string)
		grow = func(of string) {
			holdsTree(t, n, row(n, of), 500)
			if len(of) == longest {
				return
			}
			if got := parse.Tree(n, row(n, of), 500); got.Err == errSyntax && got.At != 500 {
				more := of + letters[len(of)*3:len(of)*3+1]
				holdsTree(t, n, row(n, more), 500)
				return
			}
			for i := range len(letters) {
				grow(of + letters[i:i+1])
			}
		}
		grow("")
	}
}

// P11.1: longer rows, by chance, of which many are right, or nearly so; the same ones each time.
func TestLongerRows(t *testing.T) {
	chance := rand.New(rand.NewSource(11))
	likely := "ss19./(){+-^" + letters
	for range 1500 {
		for n := 1; n <= notations; n++ {
			of := []byte(written(chance, n, 4))
			for range chance.Intn(3) {
				at := chance.Intn(len(of) + 1)
				switch letter := likely[chance.Intn(len(likely))]; chance.Intn(3) {
				case 0:
					of = slices.Insert(of, at, letter)
				case 1:
					of = slices.Delete(of, min(at, len(of)), min(at+1, len(of)))
				case 2:
					of = append(of[:at], append([]byte{letter}, of[min(at+1, len(of)):]...)...)
				}
			}
			if len(of) < 60 {
				holdsTree(t, n, row(n, string(of)), 5)
			}
		}
	}
}

// written is a row that the grammar makes, by letters.
func written(chance *rand.Rand, n, deep int) string {
	out := ""
	if chance.Intn(4) == 0 {
		out = "/"
	}
	out += writtenItem(chance, n, deep)
	for range chance.Intn(4) {
		out += "./"[chance.Intn(2):][:1] + writtenItem(chance, n, deep)
	}
	return out
}

func writtenItem(chance *rand.Rand, n, deep int) string {
	out := ""
	switch kind := chance.Intn(8); {
	case kind == 0:
		return "{"
	case kind == 1:
		out = "19h"[chance.Intn(3):][:1]
	case kind <= 3 && deep > 0:
		out = "(" + written(chance, n, deep-1) + ")"
	default:
		out = "s"
		if chance.Intn(40) == 0 {
			out = "q"
		}
		if chance.Intn(2) == 0 {
			if hasPow(n) {
				out += "^"
			}
			out += []string{"", "+", "-", "-"}[chance.Intn(4)] + "019"[chance.Intn(3):][:1]
		}
	}
	if chance.Intn(4) == 0 {
		out += "{"
	}
	return out
}

// P11.2: longer texts, put together of pieces, by chance; tokens of Parse are those of the text, so that Tree tells the same of them.
func TestLongerTexts(t *testing.T) {
	chance := rand.New(rand.NewSource(12))
	pieces := map[byte][]string{'s': {"m", "s", "g", "mm", "K"}, 'q': {"qq", "Mzz"}, '0': {"0", "00"}, '1': {"1", "7", "01"}, '9': {"99", "42"}, 'h': {"100", "9223372036854775807"}, 'n': {" "}, '{': {"{x y}", "{}", "{m.2}"}, '?': {"}", "~"}, '!': {"\x00", "9223372036854775808"}}
	own := [notations + 1]*strings.Replacer{3: strings.NewReplacer(".", "*", "{", "<", "}", ">")}
	for range 1500 {
		for n := 1; n <= notations; n++ {
			of := []byte(written(chance, n, 3))
			if chance.Intn(2) == 0 {
				of[chance.Intn(len(of))] = letters[chance.Intn(len(letters))]
			}
			s := ""
			for _, letter := range of {
				piece := string(letter)
				if some := pieces[letter]; some != nil {
					piece = some[chance.Intn(len(some))]
				}
				s += piece
			}
			if own[n] != nil {
				s = own[n].Replace(s)
			}
			if len(of) > 60 {
				continue
			}
			holdsParse(t, n, s)
			if l, end, err := lex.Lex(n, s); err == 0 && !same(parse.Parse(n, s), parse.Tree(n, l, end)) {
				t.Errorf("Parse(%d, %q): %v, but Tree %v", n, s, parse.Parse(n, s), parse.Tree(n, l, end))
			}
		}
	}
}

// R1: an empty row, and nil, end where they begin; the place is the size, whatever it is.
func TestEmptyRows(t *testing.T) {
	for n := 1; n <= notations; n++ {
		for _, size := range []int{0, 1, -1, 255, 256, math.MinInt, math.MaxInt} {
			for _, l := range [][]api.Token{nil, {}, make([]api.Token, 0, 5)} {
				if got := parse.Tree(n, l, size); !same(got, api.Parsed{Err: errSyntax, At: size}) {
					t.Errorf("Tree(%d, nothing, %d): %v", n, size, got)
				}
			}
		}
	}
}

// P11.1: places are what the tokens, and the size, say, whatever that is.
func TestAnyPlaces(t *testing.T) {
	far := []int{math.MinInt, -256, -1, 0, 1, 255, 256, math.MaxInt}
	for n := 1; n <= notations; n++ {
		for _, at := range far {
			for _, size := range far {
				whole, broken, none := row(n, "s./"), row(n, "s"), row(n, "q")
				whole[2].At, none[0].At = at, at
				for _, x := range []struct {
					l    []api.Token
					want api.Parsed
				}{
					{whole, api.Parsed{Err: errSyntax, At: at}},
					{whole[:2], api.Parsed{Err: errSyntax, At: size}},
					{broken, api.Parsed{Tree: steps("0"), At: size}},
					{none, api.Parsed{Err: errSymbol, At: at, Len: 2}},
				} {
					if got := parse.Tree(n, x.l, size); !same(got, x.want) {
						t.Errorf("Tree(%d, %v, %d): %v, want %v", n, x.l, size, got, x.want)
					}
				}
				deep := row(n, strings.Repeat("(", 33))
				deep[32].At = at
				if got := parse.Tree(n, deep, size); !same(got, api.Parsed{Err: errDeep, At: at}) {
					t.Errorf("Tree(%d, 33 brackets, %d): %v", n, size, got)
				}
			}
		}
	}
}

// P11.1: kinds that there are not stand nowhere; not one of their bits makes another kind of them.
func TestKindsThatThereAreNot(t *testing.T) {
	for n := 1; n <= notations; n++ {
		for _, kind := range []int{math.MinInt, math.MinInt + 1, -9, -1, 0, 10, 11, 256, 257, 258, 1<<32 + 1, 1<<32 + 2, 1<<32 + 9, math.MaxInt} {
			for _, ahead := range []string{"", "s", "1", "{", "s.", "(s", "(", "/"} {
				x := api.Token{Kind: kind, At: 12345, Text: "m", N: 1}
				if got := parse.Tree(n, append(row(n, ahead), x), 99); !same(got, api.Parsed{Err: errSyntax, At: 12345}) {
					t.Errorf("Tree(%d, %s, then the kind %d): %v", n, ahead, kind, got)
				}
			}
		}
	}
}

// P11.1: a number is N, whatever its text is; N may be any.
func TestAnyNumbers(t *testing.T) {
	for n := 1; n <= notations; n++ {
		pow := ""
		if hasPow(n) {
			pow = "^"
		}
		for _, number := range []int64{math.MinInt64, math.MinInt64 + 1, -1 << 32, -100, -99, -1, 0, 1, 2, 98, 99, 100, 101, 255, 256, 257, 1 << 32, 1<<32 + 1, math.MaxInt64 - 1, math.MaxInt64} {
			for _, text := range []string{"", "5", "m", "-5"} {
				x := api.Token{Kind: tokNum, At: 12345, Text: text, N: number}
				base := api.Parsed{Err: errSyntax, At: 12345}
				if number >= 1 {
					base = api.Parsed{Tree: []api.Step{{Op: opNum, Prefix: -1, Num: number}}, At: 7}
				}
				if got := parse.Tree(n, []api.Token{x}, 7); !same(got, base) {
					t.Errorf("Tree(%d, %v): %v, want %v", n, x, got, base)
				}
				for _, sign := range []string{"", "+", "-"} {
					want := api.Parsed{Err: errSyntax, At: 12345}
					if number >= 0 && number <= 99 {
						want = api.Parsed{Tree: []api.Step{{Op: opSym, Prefix: -1, N: int(number)}}, At: 7}
						if sign == "-" {
							want.Tree[0].N = -int(number)
						}
					}
					if got := parse.Tree(n, append(row(n, "s"+pow+sign), x), 7); !same(got, want) {
						t.Errorf("Tree(%d, s%s%s, then %v): %v, want %v", n, pow, sign, x, got, want)
					}
				}
			}
		}
	}
}

// P11.1: texts that tokens have by chance: a symbol is what its text is found to be, as it stands; a sign is below 0, if it is `-`; a note has any text, in any notation; those of the others say nothing.
func TestAnyTexts(t *testing.T) {
	texts := []string{"", "-", "+", "m", "M", "mmol", "MMOL", "qq", "a b", "{", "--", "\x00", "\xff", "\u00b5", strings.Repeat("m", 300), strings.Repeat("x", 1<<16)}
	for n := 1; n <= notations; n++ {
		of := "s-1.s/(s){"
		if hasPow(n) {
			of = "s^-1.s/(s){"
		}
		for i := range len(of) {
			for _, text := range texts {
				l := row(n, of)
				l[i].Text = text
				holdsTree(t, n, l, 9)
			}
		}
	}
	written := []struct {
		n    int
		text string
		want api.Parsed
	}{
		{1, "mmol", api.Parsed{Tree: steps("12:8"), At: 4}}, {2, "MMOL", api.Parsed{Tree: steps("12:8"), At: 4}}, {2, "mmol", api.Parsed{Err: errSymbol, At: 3, Len: 4}}, {4, "m", api.Parsed{Err: errSymbol, At: 3, Len: 1}}, {3, "", api.Parsed{Err: errSymbol, At: 3}}, {5, strings.Repeat("m", 300), api.Parsed{Err: errSymbol, At: 3, Len: 300}},
	}
	for _, x := range written {
		if got := parse.Tree(x.n, []api.Token{{Kind: tokSym, At: 3, Text: x.text}}, 4); !same(got, x.want) {
			t.Errorf("Tree(%d, the symbol %q): %v, want %v", x.n, x.text, got, x.want)
		}
	}
}

// P11.1, R5: no row is too long: Tree tells of those, too, that no text has.
func TestLongRows(t *testing.T) {
	for n := 1; n <= notations; n++ {
		const items = 20000
		l := row(n, "s")
		for i := range items {
			l = append(l, placed(n, "./"[i%2], i), placed(n, "s1{"[i%3], i))
		}
		got := parse.Tree(n, l, 3)
		if got.Err != 0 || got.At != 3 || len(got.Tree) != 2*items+1 {
			t.Fatalf("Tree(%d, of %d tokens): %d steps, %v", n, len(l), len(got.Tree), got.Err)
		}
		for i := range items {
			op, item := opMul+i%2, []int{opSym, opNum, opAlone}[i%3]
			if got.Tree[2*i+1].Op != item || got.Tree[2*i+2].Op != op {
				t.Fatalf("Tree(%d, of %d tokens): %v behind %v, at item %d", n, len(l), got.Tree[2*i+2], got.Tree[2*i+1], i)
			}
		}
		l = append(l, placed(n, '?', 5))
		if got := parse.Tree(n, l, 3); !same(got, api.Parsed{Err: errSyntax, At: 1035}) {
			t.Errorf("Tree(%d, of %d tokens): %v", n, len(l), got.Err)
		}
		l[len(l)-1] = placed(n, '.', 5)
		l = append(l, placed(n, 'q', 8))
		if got := parse.Tree(n, l, 3); !same(got, api.Parsed{Err: errSymbol, At: 1056, Len: 2}) {
			t.Errorf("Tree(%d, of %d tokens): %v", n, len(l), got.Err)
		}
		brackets := slices.Concat(slices.Repeat(row(n, "((s))/"), 20000), row(n, "s"))
		if got := parse.Tree(n, brackets, 3); got.Err != 0 || len(got.Tree) != 2*20000+1 {
			t.Errorf("Tree(%d, of brackets): %v", n, got.Err)
		}
		if got := parse.Tree(n, row(n, strings.Repeat("(", 100000)), 3); !same(got, api.Parsed{Err: errDeep, At: 1000 + 7*32}) {
			t.Errorf("Tree(%d, of Lefts): %v", n, got)
		}
	}
}

// R3: the row that is handed in stays as it is, and what was told is not a piece of it.
func TestRowsStay(t *testing.T) {
	for n := 1; n <= notations; n++ {
		for _, of := range []string{"/s.(s/1){", "s.q", "s)", "(s", strings.Repeat("(", 33)} {
			l := row(n, of)
			spare := slices.Grow(slices.Clone(l), 10)
			full := spare[:len(spare)+10]
			first := parse.Tree(n, spare, 5)
			if !slices.Equal(spare, l) || slices.ContainsFunc(full[len(l):], func(x api.Token) bool { return x != api.Token{} }) {
				t.Errorf("Tree(%d, %s) changed the row", n, of)
			}
			want := slices.Clone(first.Tree)
			clear(spare)
			if !slices.Equal(first.Tree, want) {
				t.Errorf("Tree(%d, %s) hangs on the row", n, of)
			}
			if again := parse.Tree(n, l, 5); !same(again, first) {
				t.Errorf("Tree(%d, %s), asked again: %v, want %v", n, of, again, first)
			}
		}
	}
}
