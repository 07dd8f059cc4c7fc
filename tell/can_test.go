package tell_test

import (
	"slices"
	"strings"
	"testing"

	"drachm/api"
	"drachm/print"
	"drachm/tell"
	"drachm/tree"
)

// can holds what Can tells of a tree: a place, and false; or -1, and true.
func can(t *testing.T, to int, of []api.Step, want int) {
	t.Helper()
	if at, ok := tell.Can(to, of); at != want || ok != (want == -1) {
		t.Errorf("Can(%d, %v): %d %v, want %d", to, brief(of), at, ok, want)
	}
}

// cannot holds that there is no such notation, or no tree.
func cannot(t *testing.T, to int, of []api.Step) {
	t.Helper()
	if at, ok := tell.Can(to, of); at != 0 || ok {
		t.Errorf("Can(%d, %v): %d %v, want 0 false", to, brief(of), at, ok)
	}
}

// canAsModel holds Can of a tree against the document, and against what Print tells of it.
func (m *model) canAsModel(t *testing.T, to int, of []api.Step) {
	t.Helper()
	at, err := m.lacks(to, of)
	_, place, told := print.Print(to, of)
	if err == 0 {
		can(t, to, of, -1)
	} else {
		can(t, to, of, at)
	}
	if (told == errMiss || told == errNote) != (err != 0) || err != 0 && (told != err || place != at) {
		t.Errorf("Print(%d, %v): error %d at %d, want %d at %d", to, brief(of), int(told), place, int(err), at)
	}
}

// P13.2: trees of which each notation has all; some of them, but for notes, where there are none.
func TestCan(t *testing.T) {
	m := newModel()
	trees := [][]api.Step{deep(32), deep(33), deep(253)}
	for _, s := range []string{"m", "1", "m.s", "kg-99/m99", "/m", "mmol/l/(a.min)", some(128, "a", "."), some(12, "9223372036854775807", "/")} {
		trees = append(trees, treeOf(1, s))
	}
	for _, of := range trees {
		for to := 1; to <= notations; to++ {
			can(t, to, of, -1)
			m.canAsModel(t, to, of)
		}
	}
	for _, of := range [][]api.Step{treeOf(1, "{}"), treeOf(1, "{x}.{Y}"), treeOf(1, "/{ a b(}"), {alone(strings.Repeat("x", 1<<20))}} {
		for to := 1; to <= notations; to++ {
			want := -1
			if to > 3 {
				want = 0
			}
			can(t, to, of, want)
		}
	}
}

// P13.2: the first step that is missing, or a note that may not be, whichever it is, and wherever in the tree.
func TestCanNot(t *testing.T) {
	m := newModel()
	for _, x := range []struct {
		n    int
		s    string
		want [notations + 1]int
	}{
		{1, "Cel", [6]int{0, -1, -1, -1, -1, 0}}, {1, "mCel-2", [6]int{0, -1, -1, -1, -1, 0}}, {1, "Par", [6]int{0, -1, -1, 0, -1, 0}}, {1, "pH2", [6]int{0, -1, -1, 0, -1, -1}}, {1, "%", [6]int{0, -1, -1, -1, 0, -1}}, {1, "Ym", [6]int{0, -1, -1, -1, 0, -1}}, {1, "EV", [6]int{0, -1, -1, -1, 0, -1}}, {1, "[pH]", [6]int{0, -1, -1, -1, 0, 0}},
		// the first one, the last one, one between
		{1, "Cel.m/s", [6]int{0, -1, -1, -1, -1, 0}}, {1, "m.s/Cel", [6]int{0, -1, -1, -1, -1, 3}}, {1, "m.Cel/s", [6]int{0, -1, -1, -1, -1, 1}}, {1, "m.(s/(g.%))", [6]int{0, -1, -1, -1, 3, -1}}, {1, "/2.(/Cel)", [6]int{0, -1, -1, -1, -1, 2}},
		// several, and again
		{1, "Cel.[pH]", [6]int{0, -1, -1, -1, 1, 0}}, {1, "[pH].Cel", [6]int{0, -1, -1, -1, 0, 0}}, {1, "m.%/Cel.Par", [6]int{0, -1, -1, 5, 1, 3}}, {1, "Par.m/Cel.%", [6]int{0, -1, -1, 0, 5, 0}}, {1, "m.(%.%)", [6]int{0, -1, -1, -1, 1, -1}}, {1, "ar.Pm.(Par/Par)", [6]int{0, -1, -1, 3, -1, 3}},
		// notes that are not allowed
		{1, "m{<}", [6]int{0, -1, -1, 1, 1, 1}}, {3, "m<{>", [6]int{0, 1, 1, -1, 1, 1}}, {1, "m.s/{a<b}", [6]int{0, -1, -1, 3, 3, 3}}, {1, "{x}.{<>}.{y}", [6]int{0, -1, -1, 1, 0, 0}}, {3, "<x>*<{}>", [6]int{0, 1, 1, -1, 0, 0}}, {1, "m{}.s{>}", [6]int{0, -1, -1, 3, 1, 1}}, {3, "(m*s*g)<}>", [6]int{0, 5, 5, -1, 5, 5}}, {1, "((/m){x}){>}", [6]int{0, -1, -1, 3, 2, 2}},
		// both, in either order
		{1, "Cel{x}", [6]int{0, -1, -1, -1, 1, 0}}, {1, "m{x}.Cel", [6]int{0, -1, -1, -1, 1, 1}}, {1, "{<}.Par", [6]int{0, -1, -1, 0, 0, 0}}, {1, "m.Par{<}", [6]int{0, -1, -1, 1, 2, 1}}, {1, "m{<}.Par", [6]int{0, -1, -1, 1, 1, 1}}, {1, "%.{x}", [6]int{0, -1, -1, -1, 0, 1}}, {1, "{x}.%", [6]int{0, -1, -1, -1, 0, 0}}, {3, "%*m<{>", [6]int{0, 2, 2, -1, 0, 2}}, {3, "(m*pH)<}>", [6]int{0, 3, 3, -1, 1, 1}},
	} {
		for to := 1; to <= notations; to++ {
			can(t, to, treeOf(x.n, x.s), x.want[to])
			m.canAsModel(t, to, treeOf(x.n, x.s))
		}
	}
	// a note that no notation has
	for to := 1; to <= notations; to++ {
		can(t, to, []api.Step{num(1), alone("}>"), does(opMul)}, 1)
	}
}

// P13.2: what is too deep, or too long, lacks nothing for that, but may lack a step.
func TestCanOfDeepAndLong(t *testing.T) {
	long := []api.Step{alone(strings.Repeat("x", 300)), sym(-1, 21, 1), does(opMul)}
	for _, x := range []struct {
		of   []api.Step
		want [notations + 1]int
	}{
		{append(deep(33), sym(-1, 21, 1), does(opMul)), [6]int{0, -1, -1, -1, -1, 35}}, {append(treeOf(1, "%"), slices.Repeat([]api.Step{does(opInv)}, 254)...), [6]int{0, -1, -1, -1, 0, -1}}, {append(deep(100), note("<")), [6]int{0, -1, -1, 102, 102, 102}}, {treeOf(1, some(127, "a", ".")+".%"), [6]int{0, -1, -1, -1, 253, -1}},
		{long, [6]int{0, -1, -1, -1, 0, 0}}, {append(slices.Clone(long), note("{")), [6]int{0, 3, 3, -1, 0, 0}},
	} {
		for to := 1; to <= notations; to++ {
			can(t, to, x.of, x.want[to])
		}
	}
}

// noTrees are rows of steps that are no tree: of steps that may be, and of some that may not.
func noTrees() [][]api.Step {
	m, s, missing := sym(-1, 0, 1), sym(-1, 1, 1), sym(-1, 21, 1)
	mul, div, inv := does(opMul), does(opDiv), does(opInv)
	out := [][]api.Step{
		nil, {}, make([]api.Step, 0, 3), make([]api.Step, 1), make([]api.Step, 300), deep(254), deep(255),
		{mul}, {div}, {inv}, {note("x")}, {m, s}, {num(1), num(2)}, {m, mul}, {m, div}, {m, s, mul, mul}, {m, s, mul, m}, {alone("x"), alone("y")}, {inv, m}, {mul, m, s}, {m, mul, s},
		{m, missing}, {missing, s, mul, inv, m}, {m, note("{<"), s}, {alone("{<"), num(0), mul}, {missing, num(0), mul},
		slices.Repeat([]api.Step{m}, 256), slices.Repeat([]api.Step{m, missing, mul}, 1<<16), append(slices.Repeat([]api.Step{missing}, 129), slices.Repeat([]api.Step{mul}, 128)...),
	}
	for _, x := range stepsThatMayNotBe() {
		out = append(out, []api.Step{x}, []api.Step{x, num(1), mul}, []api.Step{missing, x}, []api.Step{num(1), sym(-1, 7, 1), x, mul, div})
	}
	return out
}

// P13.2, R1: steps that are no tree, and notations that there are not.
func TestCanOfNoTrees(t *testing.T) {
	for _, of := range noTrees() {
		if tree.Sound(of) {
			t.Fatalf("%v is a tree", brief(of))
		}
		for _, to := range append([]int{1, 2, 3, 4, 5}, noNotations()...) {
			cannot(t, to, of)
		}
	}
	for _, of := range [][]api.Step{treeOf(1, "m"), treeOf(1, "(m.s){x}"), treeOf(1, "Cel"), treeOf(1, "m.%"), {sym(-1, 0, 1), note("{<")}, deep(33), deep(253)} {
		for _, to := range noNotations() {
			cannot(t, to, of)
		}
	}
}

// P13.2: what Can tells of a text's tree is what Tell lacks.
func TestCanAndTell(t *testing.T) {
	for _, s := range []string{"m", "mCel", "m.%", "m.Par{x}", "m{<}.Cel", "(kg.[pH])/{}", "Ym.Zs", some(127, "a", ".") + ".%", some(128, "a", "."), "m.(s.[iU])"} {
		for to := 1; to <= notations; to++ {
			told := tell.Tell(1, to, s)
			if told.Err == errMiss || told.Err == errNote {
				can(t, to, treeOf(1, s), told.At)
			} else {
				can(t, to, treeOf(1, s), -1)
			}
		}
	}
}

// R3, R4: steps that are handed in stay as they are, with what lies behind them; the same calls have the same answers.
func TestStepsStay(t *testing.T) {
	for to := 0; to <= notations+1; to++ {
		for _, of := range [][]api.Step{treeOf(1, "kg.(m.s){x}/(/2)"), treeOf(1, "Cel.%/(Par.{<})"), deep(33), deep(300), {num(1), num(2)}, {sym(-1, 21, 1), num(0), does(opMul)}} {
			spare := slices.Grow(slices.Clone(of), 8)
			full := spare[:len(spare)+8]
			for i := range 8 {
				full[len(of)+i] = num(77)
			}
			at, ok := tell.Can(to, spare)
			if !slices.Equal(spare, of) || slices.ContainsFunc(full[len(of):], func(x api.Step) bool { return x != num(77) }) {
				t.Errorf("Can(%d, %v) changed the steps", to, brief(of))
			}
			clear(spare)
			if again, still := tell.Can(to, of); again != at || still != ok {
				t.Errorf("Can(%d, %v), asked again: %d %v, want %d %v", to, brief(of), again, still, at, ok)
			}
		}
	}
}
