package print_test

import (
	"slices"
	"strings"
	"testing"

	"drachm/api"
)

// deep is a tree with so many brackets in one another: 1 by 1 by, and so on, the metre.
func deep(brackets int) []api.Step {
	return append(steps("0"), slices.Repeat(steps("!"), brackets+1)...)
}

// nested is a tree, and its text in Sensitive, with so many brackets in one another.
type nested struct {
	tree []api.Step
	text string
}

func nestedBy(brackets int) []nested {
	around := func(open, inner, close string) string {
		return strings.Repeat(open, brackets) + inner + strings.Repeat(close, brackets)
	}
	again := func(short string) []api.Step { return slices.Repeat(steps(short), brackets) }
	return []nested{
		{deep(brackets), around("/(", "/m", ")")},
		{slices.Concat(again("=2"), steps("0 1 ."), again("/")), around("2/(", "m.s", ")")},
		{slices.Concat(again("=2"), steps("0 1 /"), again(".")), around("2.(", "m/s", ")")},
		{slices.Concat(again("=2"), steps("0 !"), again(".")), around("2.(", "/m", ")")},
		{slices.Concat(again("1"), steps("0 1 . =7 /"), again("/"), steps("=9 .")), around("s/(", "m.s/7", ")") + ".9"},
		{slices.Concat(steps("@x"), again("'y")), around("(", "{x}", "){y}")},
		{slices.Concat(steps("0 'x"), again("'y")), around("(", "m{x}", "){y}")},
		{slices.Concat(steps("0 ! 1 ."), again("' !")), around("/(", "/m.s", "){}")},
		// brackets of notes are none of the text's
		{slices.Concat(steps("0 '((("), again("'(")), around("(", "m{(((}", "){(}")},
		// a left side that lies as deep, in brackets that are closed
		{slices.Concat(deep(brackets), steps("0 1 . 2 /"), steps("/")), around("/(", "/m", ")") + "/(m.s/g)"},
	}
}

// P12.1: up to 32 brackets in one another are told, and more are too deep.
func TestDeep(t *testing.T) {
	for _, brackets := range []int{1, 2, 30, 31, 32, 33, 34, 40, 60} {
		for _, x := range nestedBy(brackets) {
			for n, text := range everywhere(x.text) {
				if n == 0 || text == "" {
					continue
				}
				want := printed{text: text}
				switch {
				case brackets > maxNest:
					want = printed{err: errDeep}
				case len(text) > maxText:
					t.Fatalf("%s is too long", text)
				}
				if got := told(n, x.tree); got != want {
					t.Errorf("Print(%d, of %s): %v, want %v", n, x.text, got, want)
				}
				holds(t, n, x.tree)
			}
		}
	}
}

// long is a tree whose text has so many bytes, 3 or more, in each notation: numbers, times one another.
func long(size int) []api.Step {
	out := steps("=7")
	for left := size - 1; left > 0; {
		more := min(left, 20)
		if left-more == 1 { // a Mul takes a number behind it
			more--
		}
		out = append(out, num(tenTo(more-2)), does(opMul))
		left -= more
	}
	return out
}

// tenTo is a number of one digit more than that.
func tenTo(power int) int64 {
	out := int64(1)
	for range power {
		out *= 10
	}
	return out
}

// P12.1: texts of 255 bytes are told, and longer ones are not, however they come about.
func TestLong(t *testing.T) {
	for n := 1; n <= notations; n++ {
		for _, size := range []int{3, 21, 22, 100, 200, 253, 254, 255, 256, 257, 258, 300, 511, 512, 1000, 2500} {
			of := long(size)
			got := told(n, of)
			switch {
			case size > maxText:
				if got != (printed{err: errLong}) {
					t.Errorf("Print(%d, of %d bytes): %v", n, size, got)
				}
			case len(got.text) != size || got.err != 0:
				t.Errorf("Print(%d, of %d bytes): %v", n, size, got)
			}
			holds(t, n, of)
		}
	}
}

// sized is a tree, whose text has so many bytes in the notations, by numbers from 1 on; 0, where it is not told.
type sized struct {
	name  string
	tree  []api.Step
	bytes [notations + 1]int
}

// P12.1: what makes a text too long may be a symbol, a power, an operator, a bracket, or a note, at either end.
func TestWhatMakesLong(t *testing.T) {
	x := func(size int) string { return strings.Repeat("x", size) }
	metres := append(steps("0"), slices.Repeat(steps("0 ."), 127)...) // 128, and 127 times
	milli := slices.Clone(metres)
	milli[len(milli)-2] = sym(12, 0, 1)
	first := slices.Clone(metres)
	first[0] = sym(12, 0, 1)
	for _, s := range []sized{
		{"255 steps", metres, [6]int{0, 255, 255, 255, 255, 255}}, {"255 steps, and a prefix", milli, [6]int{0, 256, 256, 256, 256, 256}}, {"a prefix, and 254 steps", first, [6]int{0, 256, 256, 256, 256, 256}},
		{"a power, 254", append(long(251), steps("0^2 /")...), [6]int{0, 254, 254, 255, 254, 255}}, {"a power, 255", append(long(252), steps("0^2 /")...), [6]int{0, 255, 255, 256, 255, 256}}, {"a power below 0", append(long(252), steps("0^-2 /")...), [6]int{0, 256, 256, 257, 256, 257}}, {"the power 1", append(long(253), steps("0 /")...), [6]int{0, 255, 255, 255, 255, 255}},
		{"codes", append(long(252), steps("12 /")...), [6]int{0, 255, 256, 255, 255, 255}}, {"codes of prefixes", append(long(252), steps("3:11 /")...), [6]int{0, 255, 256, 255, 256, 255}},
		{"1 by", append(long(252), does(opInv)), [6]int{0, 255, 255, 255, 255, 255}}, {"1 by, 256", append(long(253), does(opInv)), [6]int{0, 256, 256, 256, 256, 256}},
		{"brackets", slices.Concat(steps("=7"), long(251), steps("/")), [6]int{0, 255, 255, 255, 255, 255}}, {"brackets, 256", slices.Concat(steps("=7"), long(252), steps("/")), [6]int{0, 256, 256, 256, 256, 256}},
		{"left", slices.Concat(long(253), steps("=7 /")), [6]int{0, 255, 255, 255, 255, 255}}, {"left, 256", slices.Concat(long(254), steps("=7 /")), [6]int{0, 256, 256, 256, 256, 256}},
		{"long ones on both sides", slices.Concat(long(200), long(200), steps("/")), [6]int{0, 403, 403, 403, 403, 403}}, {"a longer one within", slices.Concat(steps("0"), long(300), steps("/ 1 .")), [6]int{0, 306, 306, 306, 306, 306}},
		{"a note alone", []api.Step{alone(x(253))}, [6]int{0, 255, 255, 255}}, {"a note alone, 256", []api.Step{alone(x(254))}, [6]int{0, 256, 256, 256}}, {"a note alone, 257", []api.Step{alone(x(255))}, [6]int{0, 257, 257, 257}},
		{"a note", []api.Step{sym(-1, 0, 1), note(x(252))}, [6]int{0, 255, 255, 255}}, {"a note, 256", []api.Step{sym(-1, 0, 1), note(x(253))}, [6]int{0, 256, 256, 256}}, {"a note on a power", []api.Step{sym(-1, 0, 2), note(x(251))}, [6]int{0, 255, 255, 256}},
		{"a note on brackets", append(long(251), note("")), [6]int{0, 255, 255, 255}}, {"a note on brackets, 256", append(long(252), note("")), [6]int{0, 256, 256, 256}},
		{"a great note", []api.Step{alone(x(1 << 22)), num(2), does(opMul)}, [6]int{0, 1<<22 + 4, 1<<22 + 4, 1<<22 + 4}}, {"great notes", append([]api.Step{alone(x(1 << 20))}, slices.Repeat([]api.Step{alone(x(1 << 20)), does(opDiv)}, 127)...), [6]int{0, 1 << 27, 1 << 27, 1 << 27}},
	} {
		for n := 1; n <= notations; n++ {
			got := told(n, s.tree)
			switch {
			case s.bytes[n] == 0:
				if got.err != errNote {
					t.Errorf("Print(%d, %s): %v", n, s.name, got)
				}
			case s.bytes[n] > maxText:
				if got != (printed{err: errLong}) {
					t.Errorf("Print(%d, %s): %.300v", n, s.name, got)
				}
			case len(got.text) != s.bytes[n] || got.at != 0 || got.err != 0:
				t.Errorf("Print(%d, %s): %v, want %d bytes", n, s.name, got, s.bytes[n])
			}
		}
	}
}

// P12.1, R2: an error of the argument goes ahead of one of a step, that ahead of ErrDeep, and that ahead of ErrLong.
func TestOrderOfErrors(t *testing.T) {
	tooDeep, deepAndLong := deep(33), slices.Concat(long(300), deep(32), steps("/"))
	for n := 1; n <= notations; n++ {
		missing, bad := [notations + 1]string{1: "21", 2: "21", 3: "3:30", 4: "0:0", 5: "21"}[n], "@{<" // that note is told in no notation
		for _, x := range []struct {
			name string
			tree []api.Step
			want printed
		}{
			{"too deep", tooDeep, printed{err: errDeep}}, {"too long", long(256), printed{err: errLong}}, {"both", deepAndLong, printed{err: errDeep}}, {"both, within", slices.Concat(deep(33), long(400), steps("/")), printed{err: errDeep}},
			{"a note, too deep", append(slices.Clone(tooDeep), note("{<")), printed{at: len(tooDeep), err: errNote}}, {"a note alone, too deep", slices.Concat(tooDeep, steps(bad+" /")), printed{at: len(tooDeep), err: errNote}}, {"a note alone, too long", slices.Concat(long(256), steps(bad+" .")), printed{at: len(long(256)), err: errNote}}, {"a note alone, both", slices.Concat(deepAndLong, steps(bad+" .")), printed{at: len(deepAndLong), err: errNote}}, {"a note that is too long itself", []api.Step{num(1), alone("{<" + strings.Repeat("x", 300)), does(opMul)}, printed{at: 1, err: errNote}},
			{"no tree, too deep", append(slices.Clone(tooDeep), num(1)), printed{err: errArg}}, {"no tree, too long", append(long(300), num(1)), printed{err: errArg}}, {"no tree, both", deepAndLong[:len(deepAndLong)-1], printed{err: errArg}},
			{"a note, no tree", steps("0 '{< 1"), printed{err: errArg}}, {"a note ahead of what may not be", steps("@{< 0^100 ."), printed{err: errArg}}, {"a symbol, no tree", steps(missing + " 1"), printed{err: errArg}}, {"a symbol ahead of what may not be", steps(missing + " =0 ."), printed{err: errArg}},
		} {
			if got := told(n, x.tree); got != x.want {
				t.Errorf("Print(%d, %s): %v, want %v", n, x.name, got, x.want)
			}
			holds(t, n, x.tree)
		}
		if n < 3 {
			continue // all symbols that may be are told there
		}
		for _, ahead := range [][]api.Step{tooDeep, long(256), deepAndLong} {
			if got := told(n, slices.Concat(ahead, steps(missing+" ."))); got != (printed{at: len(ahead), err: errMiss}) {
				t.Errorf("Print(%d, a symbol behind %v): %v", n, brief(ahead), got)
			}
			if got := told(n, slices.Concat(steps(missing), ahead, steps("."))); got != (printed{err: errMiss}) {
				t.Errorf("Print(%d, a symbol ahead of %v): %v", n, brief(ahead), got)
			}
		}
	}
}
