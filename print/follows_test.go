package print_test

import (
	"math/rand"
	"slices"
	"strings"
	"testing"

	"drachm/api"
	"drachm/lex"
	"drachm/parse"
	"drachm/print"
	"drachm/symbol"
	"drachm/tree"
)

// follows is P12.3, of what was told of a tree: it is parsed to the same tree, and not without any of its brackets; and R2: with an error nothing is told but what the promise names.
func follows(t *testing.T, n int, of []api.Step, got printed) {
	t.Helper()
	if got.err != 0 {
		if got.text != "" || got.at != 0 && got.err != errMiss && got.err != errNote {
			t.Errorf("Print(%d, %v): %.300v", n, brief(of), got)
		}
		return
	}
	if !isOf(n, got.text, of) || got.at != 0 || strings.Contains(withoutNotes(n, got.text), "+") {
		t.Errorf("Print(%d, %v): %v, which is parsed to %v", n, brief(of), got, parse.Parse(n, got.text))
	}
	for _, s := range withFewerBrackets(n, got.text) {
		if isOf(n, s, of) {
			t.Errorf("Print(%d, %v): %v, but %q is enough", n, brief(of), got, s)
		}
	}
}

// isOf tells whether a text is parsed to a tree.
func isOf(n int, s string, of []api.Step) bool {
	p := parse.Parse(n, s)
	return p.Err == 0 && slices.Equal(p.Tree, of)
}

func withoutNotes(n int, s string) string {
	l := slices.Collect(lex.Each(n, s))
	for i := range l {
		if l[i].Kind == tokNote {
			l[i].Text = ""
		}
	}
	return lex.Join(n, l)
}

// pairs are the places of the brackets of a text, each Left with its Right.
func pairs(n int, s string) [][2]int {
	var out [][2]int
	var open []int
	for x := range lex.Each(n, s) {
		switch x.Kind {
		case tokLeft:
			open = append(open, x.At)
		case tokRight:
			out = append(out, [2]int{open[len(open)-1], x.At})
			open = open[:len(open)-1]
		}
	}
	return out
}

// withFewerBrackets are a text without some of its brackets, but no others: of up to four pairs, without each set of them; of more, without each one, and without all.
func withFewerBrackets(n int, s string) []string {
	of := pairs(n, s)
	var out []string
	if len(of) <= 4 {
		for set := 1; set < 1<<len(of); set++ {
			out = append(out, without(s, of, func(i int) bool { return set>>i&1 == 1 }))
		}
		return out
	}
	for gone := range of {
		out = append(out, without(s, of, func(i int) bool { return i == gone }))
	}
	return append(out, without(s, of, func(int) bool { return true }))
}

func without(s string, of [][2]int, gone func(int) bool) string {
	left := []byte(s)
	for i, pair := range of {
		if gone(i) {
			left[pair[0]], left[pair[1]] = 0, 0
		}
	}
	return strings.ReplaceAll(string(left), "\x00", "")
}

// P12.1, P12.3: all trees of up to five steps, and, in two notations, six.
func TestAllShortTrees(t *testing.T) {
	t.Parallel()
	kinds := steps("=3 7:2^-2 . / ! 'x @y")
	takes := map[int]int{opMul: 2, opDiv: 2, opInv: 1, opNote: 1}
	for n := 1; n <= notations; n++ {
		longest := 5
		if n == 1 || n == 3 {
			longest = 6
		}
		count := 0
		var grow func(of []api.Step, trees int)
		grow = func(of []api.Step, trees int) {
			if trees == 1 {
				holds(t, n, of)
				count++
			}
			if len(of) == longest {
				return
			}
			for _, x := range kinds {
				left := trees + 1 - takes[x.Op]
				if trees >= takes[x.Op] && left-1 <= longest-len(of)-1 {
					grow(append(slices.Clone(of), x), left)
				}
			}
		}
		grow(nil, 0)
		if want := map[int]int{5: 3 + 6 + 30 + 132 + 696, 6: 3 + 6 + 30 + 132 + 696 + 3696}[longest]; count != want {
			t.Errorf("%d trees, want %d", count, want)
		}
	}
}

// P12.1: all rows of up to four steps, of which most are no tree.
func TestAllShortRows(t *testing.T) {
	t.Parallel()
	kinds := append(steps("=3 21^2 . / ! '} @>"), api.Step{})
	for n := 1; n <= notations; n++ {
		rows := [][]api.Step{nil}
		for size := range 5 {
			var more [][]api.Step
			for _, of := range rows {
				holds(t, n, of)
				for _, x := range kinds {
					if size < 4 {
						more = append(more, append(slices.Clone(of), x))
					}
				}
			}
			rows = more
		}
	}
}

// P12.1, P12.3: longer trees, by chance; the same ones each time.
func TestLongerTrees(t *testing.T) {
	t.Parallel()
	chance := rand.New(rand.NewSource(12))
	for i := range 200 {
		for n := 1; n <= notations; n++ {
			of := byChance(chance, n, 1+chance.Intn(25), i%3 == 0)
			if !tree.Sound(of) {
				t.Fatalf("%v is no tree", of)
			}
			holds(t, n, of)
		}
	}
}

// byChance is a tree of so many leaves; if it is wild, with symbols and notes that a notation may not have.
func byChance(chance *rand.Rand, n, leaves int, wild bool) []api.Step {
	var out []api.Step
	if leaves == 1 {
		out = []api.Step{leafByChance(chance, n, wild)}
	} else {
		left := 1 + chance.Intn(leaves-1)
		out = slices.Concat(byChance(chance, n, left, wild), byChance(chance, n, leaves-left, wild), []api.Step{does(opMul + chance.Intn(2))})
	}
	switch chance.Intn(10) {
	case 0:
		out = append(out, does(opInv))
	case 1:
		if wild || marks[n].open != "" {
			out = append(out, note(noteByChance(chance, wild)))
		}
	}
	return out
}

func leafByChance(chance *rand.Rand, n int, wild bool) api.Step {
	switch kind := chance.Intn(10); {
	case kind < 2:
		return num(1 + chance.Int63n(1<<chance.Intn(62)+1))
	case kind == 2 && (wild || marks[n].open != ""):
		return alone(noteByChance(chance, wild))
	}
	powers := []int{-99, -10, -2, -1, 0, 1, 1, 1, 1, 2, 3, 10, 99}
	for {
		x := sym(chance.Intn(prefixCount+1)-1, chance.Intn(atomCount), powers[chance.Intn(len(powers))])
		if tree.Sound([]api.Step{x}) && (wild && chance.Intn(3) == 0 || symbol.Told(n, x.Prefix, x.Atom)) {
			return x
		}
	}
}

func noteByChance(chance *rand.Rand, wild bool) string {
	texts := []string{"", "x", "a b", "m.(s)", "2", "(", ")"}
	if wild && chance.Intn(4) == 0 {
		texts = []string{"{", "}", "<", ">"}
	}
	return texts[chance.Intn(len(texts))]
}

// P12.3: of all texts that are parsed to a tree what is printed of it is none longer than, and none has fewer brackets: all texts of up to five tokens.
func TestShortest(t *testing.T) {
	t.Parallel()
	for n := 1; n <= notations; n++ {
		const longest = 5
		var pieces []string
		for _, piece := range strings.Fields("m 2 1 0 - + . / ^ ( ) {}") {
			if own := everywhere(piece)[n]; own != "" {
				pieces = append(pieces, own)
			}
		}
		right := 0
		var grow func(s string, size int)
		grow = func(s string, size int) {
			p := parse.Parse(n, s)
			if p.Err == 0 {
				right++
				isShortest(t, n, s, p.Tree)
			}
			// What can't stand there does not, whatever follows; but digits may be made another number.
			if size == longest || p.Err == errSyntax && p.At < len(s) && !strings.ContainsAny(s[len(s)-1:], "012") {
				return
			}
			for _, piece := range pieces {
				grow(s+piece, size+1)
			}
		}
		grow("", 0)
		if right < 400 {
			t.Errorf("%d texts in the notation %d", right, n)
		}
	}
}

// isShortest holds what is printed of a tree against a text of it.
func isShortest(t *testing.T, n int, s string, of []api.Step) {
	t.Helper()
	got := told(n, of)
	if got.err != 0 || len(got.text) > len(s) || len(pairs(n, got.text)) > len(pairs(n, s)) || !isOf(n, got.text, of) {
		t.Errorf("Print(%d, of %s): %v", n, s, got)
	}
}

// P12.3: texts with more than they need, in notations without a Pow, and what is left of them.
func TestWhatIsNotNeeded(t *testing.T) {
	for s, want := range map[string]string{
		"((m))": "m", "(m).(s)": "m.s", "(m.s).g": "m.s.g", "(m/s)/g": "m/s/g", "m.(s.g)": "m.(s.g)", "(/m)/s": "/m/s", "/(m)": "/m", "(m){x}": "m{x}", "(5)/(007)": "5/7", "((/(m))){x}": "(/m){x}", "(m{x})": "m{x}", "/(m{x})": "/m{x}", "({x})": "{x}", "({x}).({y})": "{x}.{y}", "m/({x})": "m/{x}",
		"m+2": "m2", "m1": "m", "m+1": "m", "m+0": "m0", "m-0": "m0", "m002": "m2", "m-01": "m-1", "m00": "m0", "m01": "m", "000100": "100", "((m-02){}).(1)": "m-2{}.1", "(1)": "1", "(((m.s)))": "m.s", "((m))/((s)/(g))": "m/(s/g)", "(((m/s)).g){x}/m": "(m/s.g){x}/m",
	} {
		for n, text := range everywhere(s) {
			if n != 1 && n != 2 {
				continue
			}
			p := parse.Parse(n, text)
			if got := told(n, p.Tree); got != (printed{text: everywhere(want)[n]}) {
				t.Errorf("Print(%d, of %s): %v, want %s", n, s, got, want)
			}
		}
	}
}

// T2, P12.3: a tree that two notations have is told by both, and parsed to itself again.
func TestAcrossNotations(t *testing.T) {
	for _, short := range []string{"7:2 12:8 / 29 .", "12:12^2 !", "=100 36 . 0^-2 /", "10:30 35 31 / ."} {
		for n := 1; n <= notations; n++ {
			got := told(n, steps(short))
			if got.err != 0 || !isOf(n, got.text, steps(short)) {
				t.Errorf("Print(%d, %s): %v", n, short, got)
			}
		}
	}
}

// R3, R4: steps that are handed in stay as they are, with what lies behind them; the same steps have the same answer.
func TestStepsStay(t *testing.T) {
	for n := 0; n <= notations+1; n++ {
		for _, of := range [][]api.Step{steps("7:2 0 1 . 'x / =2 !  ."), steps("0 1 2 . . ! @y ."), steps("0 1"), steps("21 @{ ."), deep(33), long(255), long(300)} {
			spare := slices.Grow(slices.Clone(of), 8)
			full := spare[:len(spare)+8]
			for i := range 8 {
				full[len(of)+i] = num(77)
			}
			first := told(n, spare)
			if !slices.Equal(spare, of) || slices.ContainsFunc(full[len(of):], func(x api.Step) bool { return x != num(77) }) {
				t.Errorf("Print(%d, %v) changed the steps", n, brief(of))
			}
			clear(spare)
			if again := told(n, of); again != first {
				t.Errorf("Print(%d, %v), asked again: %v, want %v", n, brief(of), again, first)
			}
		}
		if x := sym(7, 2, -2); print.Symbol(n, x) != print.Symbol(n, x) {
			t.Errorf("Symbol(%d), asked again", n)
		}
	}
}
