package alike_test

import (
	"math/rand"
	"testing"

	"drachm/alike"
	"drachm/api"
	"drachm/eval"
	"drachm/frac"
	"drachm/parse"
	"drachm/worth"
)

// few are worths of few dims and tags, so that many are alike, and of some that are not right.
func few() []api.Worth {
	out := put([]api.Frac{{Num: 1, Den: 1}, {Num: -4, Den: 3, Ten: 2}, {Num: 0, Den: 1}}, []api.Dims{{}, {1}, {0, 1}, {-1}}, []int{0, 1, 10})
	return append(out, api.Worth{}, api.Worth{Tag: 1}, api.Worth{Frac: api.Frac{Num: 1, Den: 1}, Tag: 100}, api.Worth{Frac: api.Frac{Num: 10, Den: 1}}, api.Worth{Frac: api.Frac{Num: 1, Den: 1}, Dims: api.Dims{100}})
}

// P15.4: being alike goes both ways, and on, and goes with one key.
func TestAlikeGoesOn(t *testing.T) {
	for _, a := range few() {
		if alike.Alike(a, a) != isRight(a) || (alike.Key(a) != "") != isRight(a) {
			t.Errorf("%v: alike to itself is %v, the key is %q", a, alike.Alike(a, a), alike.Key(a))
		}
		for _, b := range few() {
			if alike.Alike(a, b) != alike.Alike(b, a) || alike.Alike(a, b) != (alike.Key(a) == alike.Key(b) && alike.Key(a) != "") {
				t.Errorf("%v and %v: %v, %v, keys %q and %q", a, b, alike.Alike(a, b), alike.Alike(b, a), alike.Key(a), alike.Key(b))
			}
			for _, c := range few() {
				if alike.Alike(a, c) && alike.Alike(b, c) && !alike.Alike(a, b) {
					t.Errorf("%v and %v are alike to %v, and not to one another", a, b, c)
				}
			}
		}
	}
}

// P15.4: as many of one are in another as of it in a third, times of that one in the other; of itself there is one.
func TestRatiosGoOn(t *testing.T) {
	t.Parallel()
	chance := rand.New(rand.NewSource(154))
	right := 0
	for range 20000 {
		d := rightDims()[chance.Intn(5)]
		row := [3]api.Worth{}
		for i := range row {
			row[i] = api.Worth{Frac: small(chance), Dims: d}
		}
		right += holdsOn(t, [3]answer{ratio(alike.Ratio(row[0], row[1])), ratio(alike.Ratio(row[1], row[2])), ratio(alike.Ratio(row[0], row[2]))}, row)
		is(t, ratio(alike.Ratio(row[0], row[0])), answer{many: api.Frac{Num: 1, Den: 1}}, "%v by itself", row[0])
	}
	if right < 10000 {
		t.Errorf("just %d right ones", right)
	}
}

// small is a number that is not 0, and by others like it seldom beyond the limits.
func small(chance *rand.Rand) api.Frac {
	for {
		f := byChance(chance)
		if f.Num != 0 && max(f.Num, -f.Num, f.Den) < 1<<12 {
			return f
		}
	}
}

// holdsOn holds three answers against one another, of the first of three by the second one, of that by the third one, and of the first one by the third one; it is 1, if all are numbers.
func holdsOn(t *testing.T, of [3]answer, what any) int {
	t.Helper()
	if of[0].err != 0 || of[1].err != 0 {
		return 0
	}
	product, err := frac.Mul(of[0].many, of[1].many)
	if err != 0 && of[2].err == 0 {
		return 0 // on the way alone it is beyond the limits
	}
	if err != of[2].err || product != of[2].many {
		t.Errorf("%v: %v times %v is not %v", what, of[0], of[1], of[2])
	}
	return 1
}

// P15.4: the same of texts, in each notation; and those that have a number have one key, and are alike.
func TestTextsGoOn(t *testing.T) {
	t.Parallel()
	for n := 1; n <= notations; n++ {
		right := 0
		texts := inNotation(n)
		for _, x := range texts {
			if x.err == 0 && x.worth.Tag == 0 {
				tells(t, told(alike.Many(n, x.text, x.text)), "1, 2", "notation %d, %s by itself", n, x.text)
			}
			for _, y := range texts {
				first := told(alike.Many(n, x.text, y.text))
				if first.err != 0 {
					continue
				}
				holdsAlike(t, n, x.text, y.text)
				for _, z := range texts {
					if areAlike(y.worth, z.worth) {
						right += holdsOn(t, [3]answer{first, told(alike.Many(n, y.text, z.text)), told(alike.Many(n, x.text, z.text))}, []string{x.text, y.text, z.text})
					}
				}
			}
		}
		if right < 100 {
			t.Errorf("notation %d: just %d right ones", n, right)
		}
	}
}

// holdsAlike holds that two texts of which there is a number are worth what is alike, and that one is worth so many times the other one.
func holdsAlike(t *testing.T, n int, s, by string) {
	t.Helper()
	a, _ := eval.Eval(parse.Parse(n, s).Tree)
	b, _ := eval.Eval(parse.Parse(n, by).Tree)
	if !alike.Alike(a, b) || alike.Key(a) != alike.Key(b) || alike.Key(a) == "" {
		t.Errorf("notation %d, %s and %s: keys %q and %q", n, s, by, alike.Key(a), alike.Key(b))
	}
	many, _, _ := alike.Many(n, s, by)
	times, err := worth.Mul(api.Worth{Frac: many}, b)
	if err == 0 && times != a {
		t.Errorf("notation %d: %s is not %s times %s", n, s, frac.Text(many), by)
	}
}
