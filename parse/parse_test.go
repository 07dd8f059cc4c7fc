package parse_test

import (
	"slices"
	"strings"
	"testing"

	"drachm/api"
	"drachm/lex"
	"drachm/parse"
	"drachm/tree"
)

// follows is P11.3: there is a tree, or an error; a tree is one, of chapter 9, and its brackets stand no deeper than those of the text; beside an error is nothing but what the promise names.
func follows(t *testing.T, n int, s string, got api.Parsed) {
	t.Helper()
	if got.Err != 0 {
		if len(got.Tree) != 0 || got.Err != errSymbol && got.Len != 0 || got.Err == errSymbol && got.Len < 1 || got.At < 0 || got.At > len(s) {
			t.Errorf("Parse(%d, %q): %v", n, s, got)
		}
		return
	}
	deep, most := 0, 0
	for _, x := range slices.Collect(lex.Each(n, s)) {
		switch x.Kind {
		case tokLeft:
			deep++
		case tokRight:
			deep--
		}
		most = max(most, deep)
	}
	if !tree.Sound(got.Tree) || tree.Nest(got.Tree) > most || got.At != len(s) || got.Len != 0 {
		t.Errorf("Parse(%d, %q): %v, which is no tree, or lies deeper than %d", n, s, got, most)
	}
}

// right is a text in each notation (empty: none is asked about there), and the tree that it has.
type right struct {
	texts [notations + 1]string
	tree  string
}

func treesAre(t *testing.T, rows []right) {
	t.Helper()
	for _, row := range rows {
		for n := 1; n <= notations; n++ {
			s := row.texts[n]
			if s == "" {
				continue
			}
			want := api.Parsed{Tree: steps(row.tree), At: len(s)}
			if got := parse.Parse(n, s); !same(got, want) {
				t.Errorf("Parse(%d, %q): %v, want %v", n, s, got, want)
			}
			holdsParse(t, n, s)
		}
	}
}

// wrong is a text, and the error that it has in a notation.
type wrong struct {
	n       int
	text    string
	err     api.Errno
	at, len int
}

func refused(t *testing.T, rows []wrong) {
	t.Helper()
	for _, row := range rows {
		want := api.Parsed{Err: row.err, At: row.at, Len: row.len}
		if got := parse.Parse(row.n, row.text); !same(got, want) || got.Tree != nil {
			t.Errorf("Parse(%d, %q): %v, want %v", row.n, row.text, got, want)
		}
		holdsParse(t, row.n, row.text)
	}
}

// everywhere is a text in each notation, of one with `.`, `/`, `{` and `}`, and `^` ahead of each symbol's number: where a notation has no Pow, that goes; where it has no notes, none is asked about that has some. Small letters are raised, where they are.
func everywhere(s string) [notations + 1]string {
	plain := strings.ReplaceAll(s, "^", "")
	out := [notations + 1]string{1: plain, 2: plain, 3: strings.NewReplacer(".", "*", "{", "<", "}", ">").Replace(s)}
	if !strings.Contains(s, "{") {
		out[4], out[5] = plain, s
	}
	return out
}

// P11.1, P11.2: the document's examples.
func TestExamples(t *testing.T) {
	treesAre(t, []right{{[6]string{1: "/m.s-2"}, "0 ! 1^-2 ."}})
	refused(t, []wrong{{1, "m)", errSyntax, 1, 0}, {1, "mg/xyz", errSymbol, 3, 3}})
}

// P11.1: bases are symbols, with a number or without, numbers, and brackets, in each notation.
func TestBases(t *testing.T) {
	treesAre(t, []right{
		{everywhere("m"), "0"}, {everywhere("m^2"), "0^2"}, {everywhere("m^-2"), "0^-2"}, {everywhere("m^+2"), "0^2"},
		{everywhere("m^1"), "0"}, {everywhere("m^-1"), "0^-1"}, {everywhere("m^007"), "0^7"},
		{everywhere("m^0"), "0^0"}, {everywhere("m^-0"), "0^0"}, {everywhere("m^+0"), "0^0"},
		{everywhere("m^99"), "0^99"}, {everywhere("m^-99"), "0^-99"}, {everywhere("m^+99"), "0^99"}, {everywhere("m^-0099"), "0^-99"},
		{everywhere("1"), "=1"}, {everywhere("10"), "=10"}, {everywhere("100"), "=100"}, {everywhere("007"), "=7"}, {everywhere("9223372036854775807"), "=9223372036854775807"},
		{everywhere("(m)"), "0"}, {everywhere("((m))"), "0"}, {everywhere("(m^2)"), "0^2"}, {everywhere("(3)"), "=3"}, {everywhere("((m).(3))"), "0 =3 ."},
		// a sign is that of one symbol alone
		{everywhere("m^-2.s^3"), "0^-2 1^3 ."}, {everywhere("m^-2.s"), "0^-2 1 ."}, {everywhere("m^-2.3"), "0^-2 =3 ."}, {everywhere("m^3.s^-2"), "0^3 1^-2 ."}, {everywhere("m^-2.s^+2"), "0^-2 1^2 ."},
	})
}

// P11.1: items are put together from the left, in each notation.
func TestProductsAndQuotients(t *testing.T) {
	treesAre(t, []right{
		{everywhere("m.s"), "0 1 ."}, {everywhere("m/s"), "0 1 /"},
		{everywhere("m.s.g"), "0 1 . 2 ."}, {everywhere("m/s/g"), "0 1 / 2 /"}, {everywhere("m/s.g"), "0 1 / 2 ."}, {everywhere("m.s/g"), "0 1 . 2 /"},
		{everywhere("m/(s.g)"), "0 1 2 . /"}, {everywhere("m.(s/g)"), "0 1 2 / ."}, {everywhere("(m.s)/g"), "0 1 . 2 /"}, {everywhere("m.(s.g).m"), "0 1 2 . . 0 ."},
		{everywhere("(m/s)/(g/m)"), "0 1 / 2 0 / /"}, {everywhere("m/(s/(g/m))"), "0 1 2 0 / / /"}, {everywhere("((m/s)/g)/m"), "0 1 / 2 / 0 /"},
		{everywhere("m^2/s^-3.10/g^+1"), "0^2 1^-3 / =10 . 2 /"}, {everywhere("2.3/4"), "=2 =3 . =4 /"},
	})
}

// P11.1: Div may stand ahead of the first item, and of the first one in brackets; it is done with that one alone.
func TestDivAhead(t *testing.T) {
	treesAre(t, []right{
		{everywhere("/m"), "0 !"}, {everywhere("/m^-2"), "0^-2 !"}, {everywhere("/3"), "=3 !"},
		{everywhere("/m.s"), "0 ! 1 ."}, {everywhere("/m/s"), "0 ! 1 /"}, {everywhere("/m/s/g"), "0 ! 1 / 2 /"},
		{everywhere("(/m)"), "0 !"}, {everywhere("/(/m)"), "0 ! !"}, {everywhere("/(m.s)"), "0 1 . !"}, {everywhere("/(m)/s"), "0 ! 1 /"},
		{everywhere("s/(/m.g)"), "1 0 ! 2 . /"}, {everywhere("s.(/m)"), "1 0 ! ."}, {everywhere("/(/(/m))/s"), "0 ! ! ! 1 /"}, {everywhere("(/m)/(/s)"), "0 ! 1 ! /"},
	})
	refused(t, []wrong{
		{1, "//m", errSyntax, 1, 0}, {1, "m//s", errSyntax, 2, 0}, {1, "m./s", errSyntax, 2, 0}, {1, "/.m", errSyntax, 1, 0}, {1, ".m", errSyntax, 0, 0},
		{1, "(//m)", errSyntax, 2, 0}, {1, "(.m)", errSyntax, 1, 0}, {1, "/", errSyntax, 1, 0}, {1, "(/)", errSyntax, 2, 0}, {3, "*m", errSyntax, 0, 0}, {3, "/*m", errSyntax, 1, 0}, {5, "//m", errSyntax, 1, 0},
	})
}

// P11.1: one note may stand behind a base, and one alone is an item; so behind that none may stand.
func TestNotes(t *testing.T) {
	treesAre(t, []right{
		{everywhere("m{x}"), "0 'x"}, {everywhere("m^2{x}"), "0^2 'x"}, {everywhere("m^-2{x}"), "0^-2 'x"}, {everywhere("10{x}"), "=10 'x"}, {everywhere("(m){x}"), "0 'x"}, {everywhere("(m.s){x}"), "0 1 . 'x"},
		{everywhere("{x}"), "@x"}, {everywhere("({x})"), "@x"}, {everywhere("{}"), "@"}, {everywhere("m{}"), "0 '"}, {everywhere("m{Abc}"), "0 'Abc"},
		{everywhere("({x}){y}"), "@x 'y"}, {everywhere("(m{x}){y}"), "0 'x 'y"}, {everywhere("((m{x}){y}){z}"), "0 'x 'y 'z"},
		{everywhere("/{x}"), "@x !"}, {everywhere("/m{x}"), "0 'x !"}, {everywhere("(/m){x}"), "0 ! 'x"}, {everywhere("(/m{x}){y}"), "0 'x ! 'y"},
		{everywhere("{x}.{y}/{z}"), "@x @y . @z /"}, {everywhere("m{x}/s{y}.2{z}"), "0 'x 1 'y / =2 'z ."}, {everywhere("m/(s{x}.g){y}"), "0 1 'x 2 . 'y /"}, {everywhere("{x}.m{y}"), "@x 0 'y ."},
	})
	refused(t, []wrong{
		{1, "m{a}{b}", errSyntax, 4, 0}, {1, "{a}{b}", errSyntax, 3, 0}, {1, "m2{a}{b}", errSyntax, 5, 0}, {1, "(m){a}{b}", errSyntax, 6, 0}, {1, "({a}{b})", errSyntax, 4, 0}, {1, "10{a}{}", errSyntax, 5, 0},
		{1, "{a}m", errSyntax, 3, 0}, {1, "{a}2", errSyntax, 3, 0}, {1, "m{a}2", errSyntax, 4, 0}, {1, "m{a}-2", errSyntax, 4, 0}, {1, "{a}(m)", errSyntax, 3, 0}, {1, "m-{a}", errSyntax, 2, 0},
		{2, "m{a}{b}", errSyntax, 4, 0}, {3, "m<a><b>", errSyntax, 4, 0}, {3, "<a><b>", errSyntax, 3, 0}, {3, "m^<a>", errSyntax, 2, 0}, {3, "m<a>^2", errSyntax, 4, 0},
		{4, "m{a}", errSyntax, 1, 0}, {4, "{a}", errSyntax, 0, 0}, {5, "m{a}", errSyntax, 1, 0}, {5, "m<a>", errSyntax, 1, 0}, {3, "m{a}", errSyntax, 1, 0}, {1, "m<a>", errSyntax, 1, 0},
	})
}

// P11.1: a note's text is the step's, as it stands there.
func TestTextsOfNotes(t *testing.T) {
	for _, note := range []string{"Abc", "a b", " ", "m.s/(2)^-1*", "~!\"#$%&'+,-:;=?@[]\\_`|"} {
		for n, s := range [4]string{1: "m{" + note + "}", 2: "m{" + note + "}", 3: "m<" + note + ">"} {
			if n == 0 {
				continue
			}
			want := []api.Step{{Op: opSym, Prefix: -1, N: 1}, {Op: opNote, Prefix: -1, Text: note}}
			if got := parse.Parse(n, s); !same(got, api.Parsed{Tree: want, At: len(s)}) {
				t.Errorf("Parse(%d, %q): %v, want %v", n, s, got, want)
			}
			want = []api.Step{{Op: opAlone, Prefix: -1, Text: note}}
			if got := parse.Parse(n, s[1:]); !same(got, api.Parsed{Tree: want, At: len(s) - 1}) {
				t.Errorf("Parse(%d, %q): %v, want %v", n, s[1:], got, want)
			}
		}
	}
}

// P11.1: what a symbol is hangs on the notation: its prefixes, its raised letters, and whole atoms ahead.
func TestSymbolsOfNotations(t *testing.T) {
	treesAre(t, []right{
		{[6]string{1: "mmol/l", 2: "mmol/l", 3: "mmol/L", 4: "mMol/L", 5: "mmol/l"}, "12:8 29 /"},
		{[6]string{1: "kg.m2", 2: "Kg.M2", 3: "kg*m^2", 4: "KG.m2", 5: "kg.m^2"}, "7:2 0^2 ."},
		{[6]string{1: "Pa", 2: "pal", 3: "Pa", 4: "pa", 5: "Pa"}, "12"},
		{[6]string{1: "pA", 2: "pa", 3: "pA", 5: "pA"}, "15:15"},
		{[6]string{1: "MPa-2", 2: "mapal-2", 3: "MPa^-2", 4: "mapa-2", 5: "MPa^-2"}, "6:12^-2"},
		{[6]string{1: "dar", 2: "dar", 3: "da", 5: "da"}, "10:30"},
		{[6]string{1: "%", 2: "%", 3: "%", 5: "%"}, "7"},
		{[6]string{1: "[in_i]", 2: "[in_i]", 3: "in", 4: "in", 5: "in"}, "37"},
		{[6]string{1: "Cel/[dr_av]", 2: "cel/[DR_av]", 3: "[oC]/dr"}, "21 47 /"},
		{[6]string{1: "ym2/YN", 2: "yom2/YAN", 3: "ym^2/YN", 5: "ym^2/YN"}, "19:0^2 0:11 /"},
	})
	refused(t, []wrong{
		{1, "KG", errSymbol, 0, 2}, {1, "mmin", errSymbol, 0, 4}, {3, "mmol/l", errSymbol, 5, 1}, {4, "%", errSymbol, 0, 1}, {5, "Cel", errSymbol, 0, 3}, {5, "PA2", errSyntax, 2, 0}, {4, "ym", errSymbol, 0, 2}, {2, "kmin/m", errSymbol, 0, 4},
	})
}

// P11.1: a symbol's number is from 0 to 99; a Pow stands ahead of it, where the notation has one, and nowhere else; a sign stands nowhere but ahead of it, once.
func TestNumbersOfSymbols(t *testing.T) {
	refused(t, []wrong{
		{1, "m100", errSyntax, 1, 0}, {1, "m+100", errSyntax, 2, 0}, {1, "m-100", errSyntax, 2, 0}, {1, "m-0100", errSyntax, 2, 0}, {1, "m9223372036854775807", errSyntax, 1, 0}, {2, "m100", errSyntax, 1, 0}, {4, "m-100", errSyntax, 2, 0},
		{3, "m^100", errSyntax, 2, 0}, {3, "m^+100", errSyntax, 3, 0}, {3, "m^-100", errSyntax, 3, 0}, {5, "m^100", errSyntax, 2, 0}, {5, "m^-100", errSyntax, 3, 0},
		{1, "m256", errSyntax, 1, 0}, {1, "m4294967297", errSyntax, 1, 0},
		{3, "m2", errSyntax, 1, 0}, {3, "m0", errSyntax, 1, 0}, {3, "m-2", errSyntax, 1, 0}, {3, "m+2", errSyntax, 1, 0}, {5, "m2", errSyntax, 1, 0}, {5, "m-2", errSyntax, 1, 0}, {5, "m+0", errSyntax, 1, 0},
		{1, "m^2", errSyntax, 1, 0}, {2, "m^2", errSyntax, 1, 0}, {4, "m^2", errSyntax, 1, 0},
		{1, "m-", errSyntax, 2, 0}, {1, "m+", errSyntax, 2, 0}, {3, "m^", errSyntax, 2, 0}, {3, "m^-", errSyntax, 3, 0}, {5, "m^", errSyntax, 2, 0}, {5, "m^+", errSyntax, 3, 0},
		{1, "m--2", errSyntax, 2, 0}, {1, "m+-2", errSyntax, 2, 0}, {3, "m^^2", errSyntax, 2, 0}, {3, "m^-^2", errSyntax, 3, 0}, {3, "m^--2", errSyntax, 3, 0}, {3, "m-^2", errSyntax, 1, 0}, {5, "m^+-2", errSyntax, 3, 0},
		{1, "m-s", errSyntax, 2, 0}, {1, "m-.s", errSyntax, 2, 0}, {1, "m-(2)", errSyntax, 2, 0}, {1, "m-)", errSyntax, 2, 0}, {3, "m^s", errSyntax, 2, 0}, {3, "m^*s", errSyntax, 2, 0}, {3, "m^(2)", errSyntax, 2, 0}, {3, "m^)", errSyntax, 2, 0},
		{1, "m2-", errSyntax, 2, 0}, {1, "m2-2", errSyntax, 2, 0}, {1, "m2s", errSyntax, 2, 0}, {3, "m^2^2", errSyntax, 3, 0}, {3, "m^2-2", errSyntax, 3, 0}, {5, "m^2s", errSyntax, 3, 0},
		{1, "(m)2", errSyntax, 3, 0}, {1, "(m)-2", errSyntax, 3, 0}, {3, "(m)^2", errSyntax, 3, 0}, {5, "(m)^-2", errSyntax, 3, 0}, {1, "2-2", errSyntax, 1, 0}, {3, "2^2", errSyntax, 1, 0}, {5, "2^-2", errSyntax, 1, 0},
	})
}

// P11.1: a number of a base is from 1 on, and has no sign; nothing but a note, or an operator, stands behind it.
func TestNumbersOfBases(t *testing.T) {
	refused(t, []wrong{
		{1, "0", errSyntax, 0, 0}, {1, "00", errSyntax, 0, 0}, {1, "0.m", errSyntax, 0, 0}, {1, "m.0", errSyntax, 2, 0}, {1, "m/00", errSyntax, 2, 0}, {1, "(0)", errSyntax, 1, 0}, {1, "/0", errSyntax, 1, 0}, {2, "0", errSyntax, 0, 0}, {3, "m*0", errSyntax, 2, 0}, {4, "0", errSyntax, 0, 0}, {5, "m/0", errSyntax, 2, 0},
		{1, "-2", errSyntax, 0, 0}, {1, "+2", errSyntax, 0, 0}, {1, "m.-2", errSyntax, 2, 0}, {1, "m/+2", errSyntax, 2, 0}, {1, "(-2)", errSyntax, 1, 0}, {1, "/-2", errSyntax, 1, 0}, {3, "-2", errSyntax, 0, 0}, {3, "^2", errSyntax, 0, 0}, {4, "+2", errSyntax, 0, 0}, {5, "m.^2", errSyntax, 2, 0}, {5, "-2", errSyntax, 0, 0},
		{1, "2m", errSyntax, 1, 0}, {1, "10(m)", errSyntax, 2, 0}, {1, "2.3m", errSyntax, 3, 0}, {3, "2m", errSyntax, 1, 0}, {4, "2m", errSyntax, 1, 0},
	})
}

// P11.1: brackets that are not closed, that close nothing, or hold nothing.
func TestBrackets(t *testing.T) {
	for n := 1; n <= notations; n++ {
		refused(t, []wrong{
			{n, "(", errSyntax, 1, 0}, {n, "(m", errSyntax, 2, 0}, {n, "((m)", errSyntax, 4, 0}, {n, "(m/(s)", errSyntax, 6, 0}, {n, "m/(", errSyntax, 3, 0}, {n, "(m/", errSyntax, 3, 0},
			{n, ")", errSyntax, 0, 0}, {n, "m)", errSyntax, 1, 0}, {n, "(m))", errSyntax, 3, 0}, {n, "m/s)", errSyntax, 3, 0}, {n, ")m(", errSyntax, 0, 0}, {n, "(m)/s)", errSyntax, 5, 0}, {n, "/)", errSyntax, 1, 0},
			{n, "()", errSyntax, 1, 0}, {n, "m/()", errSyntax, 3, 0}, {n, "(())", errSyntax, 2, 0}, {n, "(m/)", errSyntax, 3, 0}, {n, "(m)()", errSyntax, 3, 0}, {n, "(m)(s)", errSyntax, 3, 0}, {n, "m(s)", errSyntax, 1, 0}, {n, "(m)s", errSyntax, 3, 0}, {n, "2(m)", errSyntax, 1, 0},
		})
	}
}

// nested is a text in so many brackets.
func nested(deep int, s string) string {
	return strings.Repeat("(", deep) + s + strings.Repeat(")", deep)
}

// P11.1: 32 brackets may stand in one another, and no more; brackets that were closed don't count.
func TestDeep(t *testing.T) {
	for n := 1; n <= notations; n++ {
		refused(t, []wrong{
			{n, nested(33, "m"), errDeep, 32, 0}, {n, nested(34, "m"), errDeep, 32, 0}, {n, nested(100, "m"), errDeep, 32, 0}, {n, strings.Repeat("(", 255), errDeep, 32, 0}, {n, strings.Repeat("(", 33), errDeep, 32, 0}, {n, strings.Repeat("(", 32), errSyntax, 32, 0},
			{n, "m/" + nested(33, "m"), errDeep, 34, 0}, {n, strings.Repeat("(/", 33) + "m", errDeep, 64, 0}, {n, strings.Repeat("(m/", 33) + "m", errDeep, 96, 0},
			{n, nested(32, "m") + "/" + nested(33, "m"), errDeep, 65 + 1 + 32, 0},
			// closed by one, and opened by two
			{n, strings.Repeat("(", 32) + "m)/((m", errDeep, 32 + 4, 0},
			// an error of the grammar ahead of it, and the Left itself
			{n, "m(" + nested(32, "m"), errSyntax, 1, 0}, {n, "0/" + nested(33, "m"), errSyntax, 0, 0}, {n, "m)" + nested(33, "m"), errSyntax, 1, 0}, {n, strings.Repeat("(", 32) + ")(", errSyntax, 32, 0}, {n, strings.Repeat("(", 32) + "m(", errSyntax, 33, 0}, {n, strings.Repeat("(", 32) + "2(", errSyntax, 33, 0}, {n, nested(32, "m") + "(", errSyntax, 65, 0},
			// and behind it
			{n, nested(33, ""), errDeep, 32, 0}, {n, strings.Repeat("(", 33) + "m.0", errDeep, 32, 0}, {n, nested(33, "m") + ")", errDeep, 32, 0}, {n, strings.Repeat("(", 33) + " ", errDeep, 32, 0}, {n, strings.Repeat("(", 32) + " (", errSyntax, 32, 0}, {n, strings.Repeat("(", 32) + " ", errSyntax, 32, 0},
			// a symbol that is none
			{n, "qq/" + nested(33, "m"), errDeep, 35, 0}, {n, nested(33, "qq"), errDeep, 32, 0}, {n, nested(32, "qq"), errSymbol, 32, 2},
		})
	}
	treesAre(t, []right{
		{everywhere(nested(31, "m")), "0"}, {everywhere(nested(32, "m")), "0"}, {everywhere(nested(32, "/m.s")), "0 ! 1 ."},
		{everywhere(nested(32, "m") + "/" + nested(32, "s") + "." + nested(32, "g")), "0 1 / 2 ."},
		{everywhere(strings.Repeat("(", 32) + "m)/(s" + strings.Repeat(")", 32)), "0 1 /"},
		{everywhere(strings.Repeat("(m/", 32) + "s" + strings.Repeat(")", 32)), strings.Repeat("0 ", 32) + "1" + strings.Repeat(" /", 32)},
		{everywhere(strings.Repeat("(/", 32) + "s" + strings.Repeat(")", 32)), "1" + strings.Repeat(" !", 32)},
		{everywhere(strings.Repeat("(", 32) + "m" + strings.Repeat("){x}", 32)), "0" + strings.Repeat(" 'x", 32)},
	})
}

// P11.1: a symbol that is none is told behind all errors of the grammar, whether it stands ahead of them or behind; of two the first one.
func TestSymbolsThatAreNone(t *testing.T) {
	for n := 1; n <= notations; n++ {
		pow := ""
		if hasPow(n) {
			pow = "^"
		}
		refused(t, []wrong{
			{n, "q", errSymbol, 0, 1}, {n, "qq", errSymbol, 0, 2}, {n, "m/qqq", errSymbol, 2, 3}, {n, "qq/m", errSymbol, 0, 2}, {n, "(m/(qq))", errSymbol, 4, 2}, {n, "/qq", errSymbol, 1, 2},
			{n, "qq/zzz", errSymbol, 0, 2}, {n, "m/qq/zzz", errSymbol, 2, 2}, {n, "m/qqq/z", errSymbol, 2, 3}, {n, "zzz/(qq)", errSymbol, 0, 3}, {n, "qq/qq", errSymbol, 0, 2}, {n, "m/q/m/q", errSymbol, 2, 1},
			{n, "qq" + pow + "2", errSymbol, 0, 2}, {n, "qq" + pow + "-2/m", errSymbol, 0, 2}, {n, "m" + pow + "2/qq" + pow + "0", errSymbol, 3 + len(pow), 2}, {n, "qq" + pow + "100", errSyntax, 2 + len(pow), 0},
			{n, "qq)", errSyntax, 2, 0}, {n, "qq/", errSyntax, 3, 0}, {n, "qq/(m", errSyntax, 5, 0}, {n, "qq/0", errSyntax, 3, 0}, {n, "0/qq", errSyntax, 0, 0}, {n, "(qq", errSyntax, 3, 0}, {n, ")qq", errSyntax, 0, 0}, {n, "2qq", errSyntax, 1, 0}, {n, "m/qq//m", errSyntax, 5, 0},
			{n, "qq ", errSyntax, 2, 0}, {n, "qq/m ", errSyntax, 4, 0}, {n, " qq", errSyntax, 0, 0}, {n, "m/qq&zz", errSyntax, 4, 0},
			{n, strings.Repeat("q", 255), errSymbol, 0, 255}, {n, "m/" + strings.Repeat("q", 253), errSymbol, 2, 253}, {n, "'", errSymbol, 0, 1}, {n, "[_]", errSymbol, 0, 3},
		})
	}
	refused(t, []wrong{{1, "qq{m}", errSymbol, 0, 2}, {1, "{qq}.zz{m}", errSymbol, 5, 2}, {3, "<qq>*zz<m>", errSymbol, 5, 2}, {1, "qq.(m", errSyntax, 5, 0}, {1, "m.qq.zz2", errSymbol, 2, 2}, {1, "qq{m}{m}", errSyntax, 5, 0}})
}

// P11.2: where tokens end ahead of the text's end, nothing can stand, if nothing is met ahead of it.
func TestWhereTokensEnd(t *testing.T) {
	for n := 1; n <= notations; n++ {
		refused(t, []wrong{
			{n, " ", errSyntax, 0, 0}, {n, "m ", errSyntax, 1, 0}, {n, " m", errSyntax, 0, 0}, {n, "m /s", errSyntax, 1, 0}, {n, "m/ s", errSyntax, 2, 0}, {n, "m/s ", errSyntax, 3, 0}, {n, "( m)", errSyntax, 1, 0}, {n, "(m) ", errSyntax, 3, 0}, {n, "\x00", errSyntax, 0, 0}, {n, "m\u00b5", errSyntax, 1, 0}, {n, "\xffm", errSyntax, 0, 0},
			// what ends there may have been wrong ahead of it, or not have been at an end
			{n, "m) ", errSyntax, 1, 0}, {n, "0 ", errSyntax, 0, 0}, {n, "2m ", errSyntax, 1, 0}, {n, "() ", errSyntax, 1, 0}, {n, "m// ", errSyntax, 2, 0}, {n, "m/ ", errSyntax, 2, 0}, {n, "(m ", errSyntax, 2, 0}, {n, "/ ", errSyntax, 1, 0}, {n, "m ) ", errSyntax, 1, 0},
			{n, "9223372036854775808", errSyntax, 0, 0}, {n, "m/9223372036854775808", errSyntax, 2, 0}, {n, "m)/9223372036854775808", errSyntax, 1, 0},
			{n, "m}", errSyntax, 1, 0}, {n, "m>", errSyntax, 1, 0}, {n, "m{", errSyntax, 1, 0}, {n, "m<", errSyntax, 1, 0}, {n, "m{x", errSyntax, 1, 0}, {n, "m<x", errSyntax, 1, 0}, {n, "m){x", errSyntax, 1, 0}, {n, "m{x\x1f}", errSyntax, 1, 0}, {n, "m&", errSyntax, 1, 0},
		})
	}
	refused(t, []wrong{
		{1, "m*s", errSyntax, 1, 0}, {3, "m.s", errSyntax, 1, 0}, {5, "m*s", errSyntax, 1, 0}, {1, "m9223372036854775808", errSyntax, 1, 0}, {1, "m-9223372036854775808", errSyntax, 2, 0}, {3, "m^9223372036854775808", errSyntax, 2, 0}, {3, "m9223372036854775808", errSyntax, 1, 0}, {1, "{a}{b}{", errSyntax, 3, 0}, {1, "m{a}}", errSyntax, 4, 0},
	})
}

// P11.2: 255 bytes are not too long, 256 are, whatever they are.
func TestLong(t *testing.T) {
	long := func(size int) string {
		first := "mm"[size%2:]
		return first + strings.Repeat("/m", (size-len(first))/2)
	}
	for n := 1; n <= notations; n++ {
		for _, size := range []int{1, 2, 3, 253, 254, 255} {
			s := long(size)
			items := (size + 1) / 2
			if got := parse.Parse(n, s); len(s) != size || got.Err != 0 || got.At != size || len(got.Tree) != 2*items-1 {
				t.Errorf("Parse(%d, of %d bytes): %v", n, size, got)
			}
			holdsParse(t, n, s)
		}
		for _, s := range []string{long(256), long(257), strings.Repeat("m", 256), strings.Repeat("(", 256), strings.Repeat(" ", 256), "0" + long(255), strings.Repeat("m/", 1<<20) + "m"} {
			refused(t, []wrong{{n, s, errLong, 0, 0}})
		}
		refused(t, []wrong{{n, strings.Repeat(" ", 255), errSyntax, 0, 0}, {n, strings.Repeat("1", 255), errSyntax, 0, 0}, {n, strings.Repeat("0", 255), errSyntax, 0, 0}, {n, long(253) + "/)", errSyntax, 254, 0}, {n, long(253) + "//", errSyntax, 254, 0}, {n, long(253) + "/(", errSyntax, 255, 0}})
		treesAre(t, []right{{everywhere(strings.Repeat("0", 254) + "7"), "=7"}, {everywhere("m^" + strings.Repeat("0", 252) + "7"), "0^7"}})
	}
	for _, s := range []string{"m{" + strings.Repeat("x", 252) + "}", "{" + strings.Repeat("x", 253) + "}", strings.Repeat("{}/", 84) + "m{}"} {
		holdsParse(t, 1, s)
		if got := parse.Parse(1, s); got.Err != 0 {
			t.Errorf("Parse(1, %q): %v", s, got)
		}
		refused(t, []wrong{{1, s + "}", errLong, 0, 0}})
	}
}

// P11.2: no text is a tree that is empty.
func TestEmpty(t *testing.T) {
	for n := 1; n <= notations; n++ {
		refused(t, []wrong{{n, "", errSyntax, 0, 0}})
	}
}

// P11.1, P11.2: of a notation that there is not nothing else is told, whatever is handed in.
func TestNoNotation(t *testing.T) {
	for _, n := range noNotations() {
		for _, s := range []string{"", "m", "qq", "m)", " ", nested(40, "m"), strings.Repeat("m", 256), strings.Repeat("m", 1000)} {
			refused(t, []wrong{{n, s, errArg, 0, 0}})
			for _, size := range []int{-1, 0, 1, len(s), 1 << 40} {
				l := slices.Collect(lex.Each(1, s))
				if got := parse.Tree(n, l, size); !same(got, api.Parsed{Err: errArg}) {
					t.Errorf("Tree(%d, of %q, %d): %v", n, s, size, got)
				}
			}
		}
	}
}

// R4: the same calls have the same answers; R3: what was told is the caller's, and does not change another answer.
func TestAskedAgain(t *testing.T) {
	for n := 1; n <= notations; n++ {
		for _, s := range []string{"m", "/m.s", "m/(s.g)", "qq", "m)", "m ", nested(33, "m")} {
			first := parse.Parse(n, s)
			want := api.Parsed{Tree: slices.Clone(first.Tree), Err: first.Err, At: first.At, Len: first.Len}
			for i := range first.Tree {
				first.Tree[i] = api.Step{Op: -1, Text: "x"}
			}
			if again := parse.Parse(n, s); !same(again, want) {
				t.Errorf("Parse(%d, %q), asked again: %v, want %v", n, s, again, want)
			}
		}
	}
}
