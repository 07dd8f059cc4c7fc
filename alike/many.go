package alike

import (
	"drachm/api"
	"drachm/eval"
	"drachm/parse"
)

// Many is how many of the second text's unit are in the first one's; or an error, and of which text it is: 0, 1, or 2, if it is of both. Without an error that is 2, too.
func Many(n int, s, t string) (api.Frac, api.Errno, int) {
	var one, other api.Worth
	var many api.Frac
	ofBoth := func() (err api.Errno) {
		many, err = Ratio(one, other)
		return err
	}
	which, err := first(unit(n, s, &one), unit(n, t, &other), []question{ofBoth})
	return many, err, which
}

// unit is what is asked of a text, up to what it is worth, which is put down.
func unit(n int, s string, w *api.Worth) []question {
	var t []api.Step
	return []question{
		func() api.Errno {
			p := parse.Parse(n, s)
			t = p.Tree
			return p.Err
		},
		func() (err api.Errno) {
			*w, err = eval.Eval(t)
			return err
		},
	}
}
