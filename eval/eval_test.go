package eval_test

import (
	"math/rand"
	"slices"
	"testing"

	"drachm/api"
	"drachm/eval"
)

// holds asks what a tree is worth, against the document's words.
func (m *model) holds(t *testing.T, of []api.Step) answer {
	t.Helper()
	want, at := m.eval(of)
	if at != 0 {
		t.Fatalf("%v is no tree", of)
	}
	is(t, brief(of), told(eval.Eval(of)), want)
	return want
}

// P14.2: each kind of step.
func TestKindsOfSteps(t *testing.T) {
	metre, second := sym(-1, 0, 1), sym(-1, 1, 1)
	for _, x := range []struct {
		of   []api.Step
		want string
	}{
		{[]api.Step{num(1)}, "1"}, {[]api.Step{num(120)}, "12e1"}, {[]api.Step{num(greatest)}, "9223372036854775807"}, {[]api.Step{num(9000000000000000000)}, "9e18"},
		{[]api.Step{metre}, "1 m1"}, {[]api.Step{sym(7, 0, -2)}, "1e-6 m-2"},
		{[]api.Step{alone("")}, "1"}, {[]api.Step{alone("7")}, "1"},
		{[]api.Step{metre, note("")}, "1 m1"}, {[]api.Step{num(7), note("2")}, "7"}, {[]api.Step{alone("a"), note("b"), note("c")}, "1"},
		{[]api.Step{metre, does(opInv)}, "1 m-1"}, {[]api.Step{num(3), does(opInv)}, "1/3"}, {[]api.Step{num(8), does(opInv), does(opInv)}, "8"}, {[]api.Step{alone("a"), does(opInv)}, "1"},
		{[]api.Step{metre, second, does(opMul)}, "1 m1s1"}, {[]api.Step{num(4), num(25), does(opMul)}, "1e2"},
		{[]api.Step{metre, second, does(opDiv)}, "1 m1s-1"}, {[]api.Step{second, metre, does(opDiv)}, "1 m-1s1"}, {[]api.Step{num(4), num(25), does(opDiv)}, "16e-2"}, {[]api.Step{num(2), num(3), does(opDiv)}, "2/3"},
		{[]api.Step{num(2), metre, second, does(opDiv), does(opDiv)}, "2 m-1s1"}, {[]api.Step{num(2), metre, does(opDiv), second, does(opDiv)}, "2 m-1s-1"}, {[]api.Step{num(2), num(3), num(5), does(opMul), does(opDiv)}, "4/3e-1"},
	} {
		tells(t, x.of, told(eval.Eval(x.of)), x.want)
	}
}

// leaves are those that short trees are put together of: one goes beyond the limits with another one of it, one by itself, one is special, one is that wrongly.
func leaves() []api.Step {
	return []api.Step{num(3), num(greatest), sym(-1, 0, 99), sym(13, 10, 2), sym(-1, 29, 34), sym(12, 21, 1), sym(-1, 40, 2), alone("x")}
}

// P14.2: all trees of up to five steps, and of fewer kinds of leaves up to seven.
func TestAllShortTrees(t *testing.T) {
	t.Parallel()
	m := newModel()
	few := []api.Step{num(7), sym(-1, 0, 60), sym(-1, 21, 1)}
	for most, of := range map[int][]api.Step{5: leaves(), 7: few} {
		counts := map[api.Errno]int{}
		var grow func(row []api.Step, trees int)
		grow = func(row []api.Step, trees int) {
			if trees == 1 {
				counts[m.holds(t, row).err]++
			}
			if len(row)+trees-1 >= most { // what is lacking is as long as there are trees to be put together
				return
			}
			for _, x := range of {
				grow(append(slices.Clip(row), x), trees+1)
			}
			for op, takes := range map[int]int{opMul: 2, opDiv: 2, opInv: 1, opNote: 1} {
				if trees >= takes {
					grow(append(slices.Clip(row), does(op)), trees+1-takes)
				}
			}
		}
		grow(nil, 0)
		for _, err := range []api.Errno{0, errOver, errSpecial} {
			if counts[err] < 100 {
				t.Errorf("error %d is seen %d times", err, counts[err])
			}
		}
	}
}

// P14.2: longer trees, by chance.
func TestTreesByChance(t *testing.T) {
	t.Parallel()
	m := newModel()
	chance := rand.New(rand.NewSource(14))
	counts := map[api.Errno]int{}
	for range 30000 {
		of := byChance(chance, 1+chance.Intn(12))
		counts[m.holds(t, of).err]++
	}
	for range 500 {
		if of := byChance(chance, 100); len(of) <= maxText {
			m.holds(t, of)
		}
	}
	if counts[0] < 10000 || counts[errOver] < 5000 || counts[errSpecial] < 150 {
		t.Errorf("seen: %v", counts)
	}
}

// P14.2: the first error of several is that of the first step.
func TestFirstError(t *testing.T) {
	over, special := []api.Step{sym(-1, 29, 34)}, []api.Step{sym(-1, 21, 0)}
	wrong := map[api.Errno][][]api.Step{
		errOver:    {over, treeOf(1, "m99.m"), treeOf(1, "/m/m99"), treeOf(1, "9223372036854775807.3"), treeOf(1, "mol2/(mol-2)")},
		errSpecial: {special, treeOf(1, "Cel.m"), treeOf(1, "m/Cel"), treeOf(1, "/Cel"), treeOf(1, "B.B"), treeOf(1, "[pH]-1")},
	}
	for first, lefts := range wrong {
		for _, rights := range wrong {
			for _, left := range lefts {
				for _, right := range rights {
					for _, op := range []int{opMul, opDiv} {
						is(t, product(op, left, right), told(eval.Eval(product(op, left, right))), fault(first))
						is(t, "within", told(eval.Eval(product(op, treeOf(1, "m"), product(op, left, right)))), fault(first))
						is(t, "ahead", told(eval.Eval(product(op, product(op, left, treeOf(1, "Cel.Cel")), right))), fault(first))
						is(t, "with notes", told(eval.Eval(append(product(op, left, right), does(opInv), note("x")))), fault(first))
					}
				}
			}
		}
		// A step that is wrong behind it goes ahead of all.
		for _, left := range lefts {
			is(t, left, told(eval.Eval(product(opMul, left, []api.Step{num(0)}))), fault(errArg))
		}
	}
	// What is reckoned comes to an error at its own step, behind those of both sides.
	tells(t, "m, Cel, l34", told(eval.Eval(treeOf(1, "Cel.l34"))), "error 10")
	tells(t, "m, Cel, Mul, l34", told(eval.Eval(treeOf(1, "m.Cel.l34"))), "error 18")
}

// P14.2: a number of 0 may not be: so what is divided by it is ErrArg, too.
func TestZero(t *testing.T) {
	zero, metre := []api.Step{num(0)}, []api.Step{sym(-1, 0, 1)}
	for _, of := range [][]api.Step{zero, append(zero, does(opInv)), product(opDiv, metre, zero), product(opDiv, zero, metre), product(opMul, zero, metre), product(opDiv, metre, []api.Step{num(-1)}), append(slices.Clone(zero), note("x"))} {
		is(t, of, told(eval.Eval(of)), fault(errArg))
	}
}

// P14.2: steps that are no tree: none, too many trees, too few, steps that may not be, at each place.
func TestNoTrees(t *testing.T) {
	metre := sym(-1, 0, 1)
	for _, of := range [][]api.Step{nil, {}, {metre, metre}, {does(opMul)}, {does(opInv)}, {note("x")}, {metre, does(opMul)}, {does(opMul), metre, metre}, {metre, does(opDiv), metre}, {does(opInv), metre}, {metre, metre, metre, does(opMul)}, {metre, metre, does(opMul), does(opMul)}, {note("x"), metre}, {alone("x"), alone("y")}} {
		is(t, of, told(eval.Eval(of)), fault(errArg))
	}
	tree := treeOf(1, "/m.s{x}/(2.{y})")
	for _, x := range append(wrongSymbols(), otherWrongSteps()...) {
		is(t, x, told(eval.Eval([]api.Step{x})), fault(errArg))
		is(t, x, told(eval.Eval([]api.Step{sym(-1, 21, 2), x, does(opMul)})), fault(errArg))
		for place := range tree {
			of := slices.Clone(tree)
			of[place] = x
			is(t, of, told(eval.Eval(of)), fault(errArg))
		}
	}
	for place := range tree {
		is(t, place, told(eval.Eval(slices.Delete(slices.Clone(tree), place, place+1))), lacking(tree, place))
	}
}

// lacking is what is told of a tree without one of its steps: what stands on one tree alone may be left out.
func lacking(of []api.Step, place int) answer {
	if op := of[place].Op; op != opInv && op != opNote {
		return fault(errArg)
	}
	want, _ := newModel().eval(slices.Delete(slices.Clone(of), place, place+1))
	return want
}

// P14.2: trees of as many steps as there may be, deep ones too, and of one more.
func TestLong(t *testing.T) {
	m := newModel()
	metre := []api.Step{sym(-1, 0, 1)}
	left, right := metre, metre
	for len(left) < maxText {
		op := opMul + len(left)/2%2 // times and by, in turn
		left, right = product(op, left, metre), product(op, metre, right)
	}
	notes := append(slices.Clone(metre), slices.Repeat([]api.Step{note("x")}, maxText-1)...)
	turned := append(slices.Clone(metre), slices.Repeat([]api.Step{does(opInv)}, maxText-1)...)
	for _, of := range [][]api.Step{left, right, notes, turned} {
		if len(of) != maxText {
			t.Fatalf("%d steps", len(of))
		}
		if want := m.holds(t, of); want.err != 0 {
			t.Errorf("a long tree is error %d", want.err)
		}
		for _, more := range []api.Step{does(opInv), note("x")} {
			is(t, "256 steps", told(eval.Eval(append(slices.Clone(of), more))), fault(errArg))
		}
	}
	tells(t, "too many metres", told(eval.Eval(treeOf(1, "m50.m49.m0.{x}.m"))), "error 10")
	is(t, "very many", told(eval.Eval(slices.Repeat(left, 5000))), fault(errArg))
}

// R3, R4: what is handed in stays as it is, behind its end, too, and is worth the same again.
func TestStaysAsItIs(t *testing.T) {
	m := newModel()
	for _, s := range []string{"/m.s{x}/(2.{y})", "Cel.m", "mCel{x}", "l34", "kN.m/(s.F2)"} {
		of := treeOf(1, s)
		spare := append(slices.Clone(of), num(1), does(opMul), sym(7, 2, 5), alone("z"))
		was := slices.Clone(spare)
		for range 3 {
			m.holds(t, spare[:len(of)])
			is(t, s, told(eval.Eval(spare)), fault(errArg))
		}
		if !slices.Equal(spare, was) {
			t.Errorf("%s: %v was %v", s, spare, was)
		}
	}
}
