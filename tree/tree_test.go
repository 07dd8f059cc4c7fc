package tree_test

import (
	"math"
	"math/rand"
	"slices"
	"strings"
	"testing"

	"drachm/api"
	"drachm/tree"
)

// holds holds all calls against what the document says of some steps.
func holds(t *testing.T, steps []api.Step) {
	t.Helper()
	kept := slices.Clone(steps)
	want := grown(steps)
	if got := tree.Sound(steps); got != (want != nil) {
		t.Errorf("Sound(%v): %v", brief(steps), got)
	}
	var left, right []api.Step
	deep := -1
	if want != nil {
		deep = deepest(want.text())
		switch len(want.sides) {
		case 2:
			left, right = want.sides[0].steps(), want.sides[1].steps()
		case 1:
			right = want.sides[0].steps()
		}
	}
	if a, b := tree.Parts(steps); !slices.Equal(a, left) || !slices.Equal(b, right) {
		t.Errorf("Parts(%v): %v and %v, want %v and %v", brief(steps), brief(a), brief(b), brief(left), brief(right))
	}
	if got := tree.Nest(steps); got != deep {
		t.Errorf("Nest(%v): %d, want %d", brief(steps), got, deep)
	}
	toldHolds(t, steps)
	if !slices.Equal(steps, kept) {
		t.Errorf("%v: steps were changed", brief(kept))
	}
}

// toldHolds is P9.3 of some steps.
func toldHolds(t *testing.T, steps []api.Step) {
	t.Helper()
	var places []int
	var symbols []api.Step
	var notes []string
	for place, x := range steps {
		switch x.Op {
		case opSym:
			places, symbols = append(places, place), append(symbols, x)
		case opNote, opAlone:
			notes = append(notes, x.Text)
		}
	}
	var gotPlaces []int
	var gotSymbols []api.Step
	for place, x := range tree.Symbols(steps) {
		gotPlaces, gotSymbols = append(gotPlaces, place), append(gotSymbols, x)
	}
	if !slices.Equal(gotPlaces, places) || !slices.Equal(gotSymbols, symbols) {
		t.Errorf("Symbols(%v): %v, %v, want %v, %v", brief(steps), gotPlaces, brief(gotSymbols), places, brief(symbols))
	}
	if got := slices.Collect(tree.Notes(steps)); !slices.Equal(got, notes) {
		t.Errorf("Notes(%v): %d of them, want %d", brief(steps), len(got), len(notes))
	}
}

// brief are some of the steps, with some of their texts.
func brief(steps []api.Step) []api.Step {
	out := slices.Clone(steps[:min(len(steps), 12)])
	for i := range out {
		out[i].Text = out[i].Text[:min(len(out[i].Text), 20)]
	}
	return out
}

// around are steps in which x finds just what it takes: as the last one of them, as that of a left side, and as that of a right side.
func around(x api.Step) [][]api.Step {
	own := []api.Step{x}
	if x.Op >= 1 && x.Op <= 7 {
		own = append(row("ab"[:takes[x.Op]]), x)
	}
	return [][]api.Step{own, append(slices.Clone(own), letter('c'), mul), append([]api.Step{letter('c')}, append(slices.Clone(own), div)...)}
}

// stepIs holds one step, alone and in greater trees, against whether it may be.
func stepIs(t *testing.T, x api.Step, want bool) {
	t.Helper()
	for _, steps := range around(x) {
		if got := tree.Sound(steps); got != want {
			t.Errorf("Sound with %v at %d of %d: %v, want %v", brief([]api.Step{x}), slices.Index(steps, x), len(steps), got, want)
		}
		left, right := tree.Parts(steps)
		if !want && (len(left) != 0 || len(right) != 0) {
			t.Errorf("Parts with %v: %v and %v, want nothing", brief([]api.Step{x}), brief(left), brief(right))
		}
		if got := tree.Nest(steps); (got == -1) == want {
			t.Errorf("Nest with %v: %d", brief([]api.Step{x}), got)
		}
		holds(t, steps)
	}
}

// P9.1: Op, from 1 to 7, and beyond its ends; with each other part that some kind has.
func TestOps(t *testing.T) {
	for op := -3; op <= 12; op++ {
		stepIs(t, api.Step{Op: op, Prefix: -1}, op == opSym || op >= opMul && op <= opAlone)
		stepIs(t, api.Step{Op: op, Prefix: -1, Num: 1}, op == opNum)
		stepIs(t, api.Step{Op: op, Prefix: -1, Atom: 1, N: 1}, op == opSym)
		stepIs(t, api.Step{Op: op, Prefix: -1, Text: "x"}, op == opNote || op == opAlone)
		stepIs(t, api.Step{Op: op}, op == opSym)
	}
	for _, op := range farNumbers() {
		for _, x := range alphabet() {
			x.Op = op
			stepIs(t, x, false)
		}
	}
	stepIs(t, api.Step{}, false)
}

// P9.1: Num of a StepNum, from 1 to MaxWhole.
func TestNums(t *testing.T) {
	for _, n := range []int64{1, 2, 9, 10, 99, 100, 255, 256, 1 << 31, 1 << 32, math.MaxInt64 - 1, math.MaxInt64} {
		stepIs(t, num(n), true)
	}
	for _, n := range []int64{0, -1, -2, -1 << 32, -math.MaxInt64, math.MinInt64} {
		stepIs(t, num(n), false)
	}
}

// P9.1: Atom and Prefix of a StepSym: all places, those beyond both ends, and which atoms are metric.
func TestSymbolPlaces(t *testing.T) {
	plain := notMetric()
	for atom := -3; atom <= atomCount+3; atom++ {
		there := atom >= 0 && atom < 48
		for prefix := -4; prefix <= prefixCount+3; prefix++ {
			want := there && (prefix == -1 || prefix >= 0 && prefix < 20 && !slices.Contains(plain, atom))
			if got := tree.Sound([]api.Step{sym(prefix, atom, 1)}); got != want {
				t.Errorf("prefix %d, atom %d: %v, want %v", prefix, atom, got, want)
			}
		}
		for _, prefix := range farNumbers() {
			stepIs(t, sym(prefix, atom, 1), false)
		}
	}
	for _, atom := range farNumbers() {
		stepIs(t, sym(-1, atom, 1), false)
		stepIs(t, sym(0, atom, 1), false)
	}
}

// P9.1: the edges of places, written out.
func TestSymbolPlacesWrittenOut(t *testing.T) {
	for _, x := range []struct {
		prefix, atom int
		want         bool
	}{
		{-1, 0, true}, {-1, 47, true}, {-1, -1, false}, {-1, 48, false}, {-1, 7, true}, {-1, 31, true}, {-1, 39, true},
		{0, 0, true}, {19, 0, true}, {-2, 0, false}, {20, 0, false}, {0, 46, true}, {19, 46, true},
		{0, 7, false}, {12, 31, false}, {12, 34, false}, {0, 39, false}, {19, 47, false}, {0, 47, false},
		{12, 21, true}, {12, 40, true}, {12, 41, true}, {12, 30, true}, {12, 35, true}, {12, 36, true},
		{0, -1, false}, {0, 48, false}, {20, 48, false}, {-2, -1, false},
	} {
		stepIs(t, sym(x.prefix, x.atom, 1), x.want)
	}
}

// P9.1: N of a StepSym, from -MaxDim to MaxDim; 0 and 1, too.
func TestPowers(t *testing.T) {
	for n := -103; n <= 103; n++ {
		want := n >= -99 && n <= 99
		stepIs(t, sym(-1, 0, n), want)
		stepIs(t, sym(7, 2, n), want)
		stepIs(t, sym(-1, 47, n), want)
	}
	for _, n := range farNumbers() {
		stepIs(t, sym(-1, 0, n), false)
	}
}

// P9.1: each byte of a note's text, at each place of it, is from 32 to 126.
func TestNoteBytes(t *testing.T) {
	for c := range 256 {
		b := string([]byte{byte(c)})
		want := c >= 32 && c <= 126
		for _, text := range []string{b, b + "x", "x" + b, "x" + b + "x", strings.Repeat("x", 300) + b} {
			stepIs(t, note(text), want)
			stepIs(t, alone(text), want)
		}
	}
	for _, text := range []string{"", " ", "~", "{}", "<>", "{", ">", "(", "a b.c/d", strings.Repeat(" ~", 1<<15)} {
		stepIs(t, note(text), true)
		stepIs(t, alone(text), true)
	}
	for _, text := range []string{"\u00b5", "m\u00b2", "a\xffb", "\xc3", "\x00", "a\nb", "\t", "\r\n", strings.Repeat("x", 1<<16) + "\x7f"} {
		stepIs(t, note(text), false)
		stepIs(t, alone(text), false)
	}
}

// P9.1: a part that must be 0, empty or -1, and is not, in each kind of step.
func TestPartsThatMustNotBe(t *testing.T) {
	for _, x := range alphabet() {
		stepIs(t, x, true)
		for _, text := range []string{"x", " ", "\x00"} {
			wrong := x
			wrong.Text = text
			if x.Op != opNote && x.Op != opAlone {
				stepIs(t, wrong, false)
			}
		}
		for _, n := range []int64{1, -1, 1 << 32, math.MaxInt64, math.MinInt64} {
			wrong := x
			wrong.Num = n
			if x.Op != opNum {
				stepIs(t, wrong, false)
			}
		}
		if x.Op == opSym {
			continue
		}
		for _, n := range []int{-2, 0, 1, 7, 19, 20, 1 << 32, 1<<32 - 1, math.MaxInt, math.MinInt} {
			wrong := x
			wrong.Prefix = n
			stepIs(t, wrong, false)
		}
		for _, n := range []int{-1, 1, 2, 47, 48, 1 << 32, math.MaxInt, math.MinInt} {
			wrong := x
			wrong.Atom = n
			stepIs(t, wrong, false)
			wrong = x
			wrong.N = n
			stepIs(t, wrong, false)
		}
	}
}

// P9.1, P9.2, R1: no steps are no tree, nil or empty.
func TestNothing(t *testing.T) {
	for _, steps := range [][]api.Step{nil, {}, make([]api.Step, 0, 8)} {
		if tree.Sound(steps) {
			t.Error("Sound of nothing")
		}
		if a, b := tree.Parts(steps); len(a) != 0 || len(b) != 0 {
			t.Errorf("Parts of nothing: %v and %v", a, b)
		}
		if got := tree.Nest(steps); got != -1 {
			t.Errorf("Nest of nothing: %d", got)
		}
		if tree.Symbols(steps) == nil || tree.Notes(steps) == nil {
			t.Error("nil is told")
		}
		holds(t, steps)
	}
}

// P9.1: a tree of one step, of each kind.
func TestOneStep(t *testing.T) {
	for _, x := range alphabet() {
		steps := []api.Step{x}
		want := x.Op == opNum || x.Op == opSym || x.Op == opAlone
		if got := tree.Sound(steps); got != want {
			t.Errorf("Sound of one step %d: %v", x.Op, got)
		}
		if a, b := tree.Parts(steps); len(a) != 0 || len(b) != 0 {
			t.Errorf("Parts of one step %d: %v and %v", x.Op, a, b)
		}
		if got := tree.Nest(steps); want && got != 0 || !want && got != -1 {
			t.Errorf("Nest of one step %d: %d", x.Op, got)
		}
	}
}

// P9.1: which steps are trees, written out: what lacks what it takes, at the beginning, in the middle and at the end; two trees, and none.
func TestSoundWrittenOut(t *testing.T) {
	for _, short := range []string{"a", "1", "@", "a!", "a'", "ab.", "ab/", "1@.", "ab.c/", "abc./", "a!b.", "ab!.", "ab.!", "a''", "@'", "ab'/'!", "abcd...", "abc.d./", "a!!!"} {
		if !tree.Sound(row(short)) {
			t.Errorf("%s is no tree", short)
		}
		holds(t, row(short))
	}
	for _, short := range []string{
		".", "/", "!", "'", ".a", "!a", "'a", "/ab", ".ab", "!ab.", "'ab.", ".ab.",
		"a.", "a/", "a.b", "a.bc.", "a/b", "ab..", "ab./c", "a!.b", "a'/b", "ab.!.c.",
		"abc...", "abcd.../", "ab..!", "ab.c/.", "ab./", "a!.", "a'/", "@.", "a!!.",
		"ab", "1@", "abc.", "ab!", "a!b", "a'b'", "ab.cd.", "abcd..", "ab.cd./e", "@@", "a@", "abc", "abcdefgh",
	} {
		if tree.Sound(row(short)) {
			t.Errorf("%s is a tree", short)
		}
		holds(t, row(short))
	}
}

// P9.1 to P9.3: all rows of up to five right steps, of each kind.
func TestAllShortRows(t *testing.T) {
	rows := [][]api.Step{nil}
	trees := 0
	for range 5 {
		var longer [][]api.Step
		for _, steps := range rows {
			for _, x := range alphabet() {
				longer = append(longer, append(slices.Clone(steps), x))
			}
		}
		for _, steps := range longer {
			holds(t, steps)
			if tree.Sound(steps) {
				trees++
			}
		}
		rows = longer
	}
	// Of one to five steps there are 3, 6, 30, 132 and 696: by the last step, 2 times those of one less, and 2 times the pairs.
	if want := 3 + 6 + 30 + 132 + 696; trees != want {
		t.Errorf("%d trees, want %d", trees, want)
	}
}

// some is a tree of just so many steps, by chance.
func some(chance *rand.Rand, size int) []api.Step {
	if size == 1 {
		return [][]api.Step{{num(1 + chance.Int63())}, {letter("abcdefg"[chance.Intn(7)])}, {sym(chance.Intn(20), chance.Intn(7), chance.Intn(199)-99)}, {alone(strings.Repeat("y", chance.Intn(4)))}}[chance.Intn(4)]
	}
	if size == 2 || chance.Intn(3) == 0 {
		return append(some(chance, size-1), []api.Step{inv, note("x y"), note("")}[chance.Intn(3)])
	}
	left := 1 + chance.Intn(size-2)
	return slices.Concat(some(chance, left), some(chance, size-1-left), []api.Step{{Op: opMul + chance.Intn(2), Prefix: -1}})
}

// P9.1 to P9.4: longer trees, and what comes of them if a step is left out, set in, changed or set elsewhere; the same ones each time.
func TestLongerTrees(t *testing.T) {
	chance := rand.New(rand.NewSource(1))
	for i := range 2000 {
		size := 1 + chance.Intn(40)
		if i%20 == 0 {
			size = 1 + chance.Intn(255)
		}
		steps := some(chance, size)
		if len(steps) != size || grown(steps) == nil {
			t.Fatalf("no tree of %d steps: %v", size, steps)
		}
		holds(t, steps)
		at, to := chance.Intn(size), chance.Intn(size)
		holds(t, slices.Delete(slices.Clone(steps), at, at+1))
		holds(t, slices.Insert(slices.Clone(steps), at, alphabet()[chance.Intn(7)]))
		changed := slices.Clone(steps)
		changed[at] = alphabet()[chance.Intn(7)]
		holds(t, changed)
		changed[at].N += 100
		holds(t, changed)
		swapped := slices.Clone(steps)
		swapped[at], swapped[to] = swapped[to], swapped[at]
		holds(t, swapped)
		holds(t, slices.Concat(steps, steps))
	}
}

// leftDeep is a tree of an odd number of steps, the left sides of which are trees: ab.c.d. and so on.
func leftDeep(size int) []api.Step {
	out := row("a")
	for len(out) < size {
		out = append(out, letter('b'), mul)
	}
	return out
}

// rightDeep is one, the right sides of which are trees: abcd... and so on.
func rightDeep(size int) []api.Step {
	out := slices.Repeat(row("a"), (size+1)/2)
	return append(out, slices.Repeat(row("/"), size/2)...)
}

// bothDeep is a tree of 2^levels less 1 steps, both sides of which are alike.
func bothDeep(levels int) []api.Step {
	if levels == 1 {
		return row("a")
	}
	side := bothDeep(levels - 1)
	return slices.Concat(side, side, row("."))
}

// P9.1, P9.2: trees that are deep on the left, on the right, on both sides, and by steps with one side.
func TestDeep(t *testing.T) {
	for size := 3; size <= 255; size += 2 {
		for _, x := range []struct {
			name  string
			steps []api.Step
			deep  int
		}{
			{"left", leftDeep(size), 0},
			{"right", rightDeep(size), size/2 - 1},
			{"inverse", append(row("a"), slices.Repeat(row("!"), size-1)...), size - 2},
			{"notes", append(row("a"), slices.Repeat(row("'"), size-1)...), size - 2},
			{"notes on one alone", append(row("@"), slices.Repeat(row("'"), size-1)...), size - 1},
			{"zig-zag", append(row("a"), slices.Repeat(row("!'"), size/2)...), size / 2},
		} {
			if !tree.Sound(x.steps) || len(x.steps) != size {
				t.Errorf("%s, %d steps: no tree", x.name, len(x.steps))
			}
			if got := tree.Nest(x.steps); got != x.deep {
				t.Errorf("%s, %d steps: Nest %d, want %d", x.name, size, got, x.deep)
			}
			holds(t, x.steps)
		}
	}
	for levels := 2; levels <= 8; levels++ {
		steps := bothDeep(levels)
		if got := tree.Nest(steps); got != levels-2 {
			t.Errorf("both sides, %d levels: Nest %d, want %d", levels, got, levels-2)
		}
		left, right := tree.Parts(steps)
		if side := bothDeep(levels - 1); !slices.Equal(left, side) || !slices.Equal(right, side) {
			t.Errorf("both sides, %d levels: Parts of %d and %d steps, want %d", levels, len(left), len(right), len(side))
		}
		holds(t, steps)
	}
}

// P9.1, P9.2: 255 steps may be a tree, 256 and more never are.
func TestSizes(t *testing.T) {
	ends := []api.Step{inv, note("x")}
	for _, full := range [][]api.Step{leftDeep(255), rightDeep(255), bothDeep(8), append(leftDeep(253), inv, note("x")), append(row("a"), slices.Repeat(row("!"), 254)...), append(row("@"), slices.Repeat(row("'"), 254)...)} {
		if len(full) != 255 || !tree.Sound(full) {
			t.Errorf("%d steps, that end with %v, are no tree", len(full), full[len(full)-1])
		}
		holds(t, full)
		for _, x := range ends {
			more := append(slices.Clone(full), x)
			left, right := tree.Parts(more)
			if len(more) != 256 || tree.Sound(more) || tree.Nest(more) != -1 || len(left) != 0 || len(right) != 0 {
				t.Errorf("%d steps are a tree", len(more))
			}
			holds(t, more)
		}
		holds(t, slices.Concat(full, row("b.")))
		holds(t, slices.Concat(full, full, row(".")))
	}
	if steps := append(leftDeep(253), inv); len(steps) != 254 || !tree.Sound(steps) {
		t.Error("254 steps are no tree")
	}
}

// R5: no steps are too many to be answered.
func TestManySteps(t *testing.T) {
	const many = 1 << 18
	for _, steps := range [][]api.Step{leftDeep(many + 1), rightDeep(many + 1), slices.Repeat(row("!"), many), make([]api.Step, many), slices.Repeat(row("a@'"), many/4)} {
		left, right := tree.Parts(steps)
		if tree.Sound(steps) || tree.Nest(steps) != -1 || len(left) != 0 || len(right) != 0 {
			t.Errorf("%d steps are a tree", len(steps))
		}
		toldHolds(t, steps)
	}
}

// P9.1: the parts of each kind of last step, written out; of what is no tree nothing.
func TestPartsWrittenOut(t *testing.T) {
	for _, x := range [][3]string{
		{"ab.", "a", "b"}, {"ab/", "a", "b"}, {"abc./", "a", "bc."}, {"ab.c/", "ab.", "c"}, {"ab.cd/.", "ab.", "cd/"},
		{"a!b.", "a!", "b"}, {"ab!.", "a", "b!"}, {"a'b'/", "a'", "b'"}, {"@1.", "@", "1"}, {"1@.", "1", "@"},
		{"abcd.../", "", ""}, {"abcd...", "a", "bcd.."}, {"ab.c.d.", "ab.c.", "d"}, {"abc.!'d/'.", "a", "bc.!'d/'"}, {"ab!'.'cd/!/", "ab!'.'", "cd/!"},
		{"a!", "", "a"}, {"a'", "", "a"}, {"@'", "", "@"}, {"1!", "", "1"}, {"ab.!", "", "ab."}, {"ab/'", "", "ab/"}, {"a!!", "", "a!"}, {"a!'", "", "a!"}, {"a'!", "", "a'"},
		{"a", "", ""}, {"1", "", ""}, {"@", "", ""}, {"", "", ""},
		{"!", "", ""}, {"a.", "", ""}, {"abc.", "", ""}, {"ab", "", ""}, {"aba!", "", ""}, {".a!", "", ""}, {"ab.'/", "", ""},
	} {
		left, right := tree.Parts(row(x[0]))
		if !slices.Equal(left, row(x[1])) || !slices.Equal(right, row(x[2])) {
			t.Errorf("Parts(%s): %v and %v, want %s and %s", x[0], left, right, x[1], x[2])
		}
	}
	for _, x := range []api.Step{num(0), sym(-1, 48, 1), sym(0, 7, 1), note("\x7f"), {Op: opMul}, {Op: 8, Prefix: -1}} {
		for at := range 4 {
			if left, right := tree.Parts(slices.Insert(row("ab."), at, x)); len(left) != 0 || len(right) != 0 {
				t.Errorf("Parts with %v at %d: %v and %v", x, at, left, right)
			}
		}
	}
}

// spoil changes each step, and what lies behind them, as far as it goes.
func spoil(steps []api.Step) {
	steps = steps[:cap(steps)]
	for i := range steps {
		steps[i] = api.Step{Op: -1, Text: "spoilt"}
	}
}

// R3: what is done with parts that were told changes neither the tree nor the other part, nor what is told afterwards.
func TestPartsAreTheCallers(t *testing.T) {
	for _, short := range []string{"ab.", "ab.cd/.", "abc./", "ab.c/", "a!", "ab.'"} {
		steps := append(make([]api.Step, 0, 64), row(short)...)
		wantLeft, wantRight := tree.Parts(row(short))
		left, right := tree.Parts(steps)
		spoil(left)
		if !slices.Equal(right, wantRight) || !slices.Equal(steps, row(short)) {
			t.Errorf("%s: who changes the left part changes more", short)
		}
		left, right = tree.Parts(steps)
		spoil(right)
		if !slices.Equal(left, wantLeft) || !slices.Equal(steps, row(short)) {
			t.Errorf("%s: who changes the right part changes more", short)
		}
		left, right = tree.Parts(steps)
		spoil(steps)
		if !slices.Equal(left, wantLeft) || !slices.Equal(right, wantRight) {
			t.Errorf("%s: who changes the tree changes its parts", short)
		}
	}
}

// R3: what is handed in stays as it is, also what lies behind it.
func TestHandedInStays(t *testing.T) {
	for _, short := range []string{"ab.cd/.", "a!'", "ab.c", ".a", "abc.!'d/'."} {
		all := slices.Concat(row(short), row("efgh.../'!@"))
		kept := slices.Clone(all)
		steps := all[:len(row(short))]
		left, right := tree.Parts(steps)
		left, right = append(left, mul), append(right, mul)
		tree.Sound(steps)
		tree.Nest(steps)
		for range tree.Symbols(steps) {
		}
		for range tree.Notes(steps) {
		}
		if !slices.Equal(all, kept) || len(left)+len(right) == 0 {
			t.Errorf("%s was changed: %v", short, all)
		}
	}
}

// P9.2: brackets of each kind of step on each side, and none where none stand, written out.
func TestNestWrittenOut(t *testing.T) {
	for _, x := range []struct {
		short string
		deep  int
	}{
		{"a", 0}, {"1", 0}, {"@", 0},
		// The right side of Mul, and of Div, and their left one.
		{"ab.", 0}, {"a1.", 0}, {"a@.", 0}, {"ab'.", 0}, {"abc..", 1}, {"abc/.", 1}, {"ab!.", 1},
		{"ab/", 0}, {"a1/", 0}, {"a@/", 0}, {"ab'/", 0}, {"abc./", 1}, {"abc//", 1}, {"ab!/", 1},
		{"1b.", 0}, {"@b.", 0}, {"a'b.", 0}, {"ab.c.", 0}, {"ab/c.", 0}, {"a!b.", 0},
		{"1b/", 0}, {"@b/", 0}, {"a'b/", 0}, {"ab.c/", 0}, {"ab/c/", 0}, {"a!b/", 0},
		// What Inv, and what Note, is of.
		{"a!", 0}, {"1!", 0}, {"@!", 0}, {"a'!", 0}, {"ab.!", 1}, {"ab/!", 1}, {"a!!", 1},
		{"a'", 0}, {"1'", 0}, {"@'", 1}, {"a''", 1}, {"ab.'", 1}, {"ab/'", 1}, {"a!'", 1},
		// In one another, and beside each other.
		{"abc./", 1}, {"abcd...", 2}, {"abcde....", 3}, {"abc.d..", 1}, {"abc.de/.", -1}, {"abc.de/..", 2}, {"abc.de/f./.", 2}, {"abc..de..", 1},
		{"ab.!!", 2}, {"ab.!'", 2}, {"ab.'!", 1}, {"ab.''", 2}, {"ab.''!'", 3}, {"@''", 2}, {"@'!", 1}, {"@'b.", 1}, {"b@'.", 1}, {"b@'.'", 2},
		{"abc..d.", 1}, {"abc..d.e.", 1}, {"ab!.c!.", 1}, {"ab!!.", 2}, {"a!!b.", 1}, {"ab.'c.", 1}, {"cab.'.", 1}, {"dcab.'..", 2}, {"dcab.'..'", 3},
		{"a!!!b!.", 2}, {"a!b!!!.", 3}, {"abcd...e.", 2}, {"eabcd....", 3},
		// What is no tree.
		{"", -1}, {"ab", -1}, {".", -1}, {"a.", -1}, {"!", -1}, {"ab.!c", -1},
	} {
		if got := tree.Nest(row(x.short)); got != x.deep {
			t.Errorf("Nest(%s): %d, want %d", x.short, got, x.deep)
		}
	}
}

// P9.2: what stands in a note sets no brackets, and the steps' numbers and places set none.
func TestNestHangsOnKinds(t *testing.T) {
	for _, x := range []struct {
		steps []api.Step
		deep  int
	}{
		{[]api.Step{num(1), note("((()))")}, 0},
		{[]api.Step{alone("(((")}, 0},
		{[]api.Step{alone(")"), note("(")}, 1},
		{[]api.Step{num(math.MaxInt64), sym(19, 46, -99), div}, 0},
		{[]api.Step{num(1), num(1), mul, sym(-1, 0, 0), div}, 0},
		{[]api.Step{alone(""), note(""), note("")}, 2},
	} {
		if got := tree.Nest(x.steps); got != x.deep {
			t.Errorf("Nest(%v): %d, want %d", x.steps, got, x.deep)
		}
	}
}

// P9.4: the parts of a tree are trees, and with its last step behind them they are it; so down to its single steps.
func TestPartsAreTrees(t *testing.T) {
	chance := rand.New(rand.NewSource(2))
	trees := [][]api.Step{leftDeep(255), rightDeep(255), bothDeep(8), append(row("a"), slices.Repeat(row("!'"), 127)...)}
	for range 300 {
		trees = append(trees, some(chance, 1+chance.Intn(60)))
	}
	for _, whole := range trees {
		single := 0
		for left := [][]api.Step{whole}; len(left) > 0; {
			steps := left[len(left)-1]
			left = left[:len(left)-1]
			if !tree.Sound(steps) {
				t.Fatalf("a part is no tree: %v", steps)
			}
			a, b := tree.Parts(steps)
			last := steps[len(steps)-1]
			if together := append(slices.Concat(a, b), last); !slices.Equal(together, steps) {
				t.Fatalf("parts and last step: %v, want %v", together, steps)
			}
			switch takes[last.Op] {
			case 2:
				left = append(left, a, b)
			case 1:
				left = append(left, b)
			default:
				single++
			}
		}
		want := 0
		for _, x := range whole {
			if takes[x.Op] == 0 {
				want++
			}
		}
		if single != want {
			t.Errorf("%d single steps, want %d", single, want)
		}
	}
}

// The document's example.
func TestExample(t *testing.T) {
	left, right := tree.Parts(row("abc./"))
	if !slices.Equal(left, row("a")) || !slices.Equal(right, row("bc.")) || tree.Nest(row("abc./")) != 1 {
		t.Errorf("%v and %v, %d", left, right, tree.Nest(row("abc./")))
	}
}

// R4: the same calls have the same answers, whatever was asked between.
func TestAskedAgain(t *testing.T) {
	steps := row("abc.!'d/'.")
	left, right := tree.Parts(steps)
	for range 3 {
		tree.Nest(rightDeep(255))
		tree.Sound(nil)
		tree.Parts(row("ab"))
		a, b := tree.Parts(steps)
		if !tree.Sound(steps) || tree.Nest(steps) != 3 || !slices.Equal(a, left) || !slices.Equal(b, right) {
			t.Errorf("%v, %d, %v, %v", tree.Sound(steps), tree.Nest(steps), a, b)
		}
	}
}
