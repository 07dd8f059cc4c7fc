package eval

import (
	"drachm/api"
	"drachm/atoms"
	"drachm/frac"
	"drachm/worth"
)

// units are those of the table, and what the atoms are worth that one call has asked about up to now.
type units struct {
	table api.Table
	known map[int]api.Worth
}

func newUnits() units { return units{atoms.Table(), map[int]api.Worth{}} }

// symbol is what a symbol that may be is worth. A prefix changes the number alone: so a special unit may have one, though it may have no power.
func (u units) symbol(x api.Step) (api.Worth, api.Errno) {
	w, err := u.atom(x.Atom)
	if err == api.OK && x.Prefix >= 0 {
		w.Frac, err = tens(w.Frac, u.table.Prefixes[x.Prefix].Ten)
	}
	if err == api.OK && x.N != 1 {
		w, err = worth.Pow(w, x.N)
	}
	if err != api.OK {
		return api.Worth{}, err
	}
	return w, api.OK
}

// tens is a number times ten to a power.
func tens(a api.Frac, power int) (api.Frac, api.Errno) {
	number, err := frac.Make(1, 1, power)
	if err != api.OK {
		return api.Frac{}, err
	}
	return frac.Mul(a, number)
}

// atom is what the atom at a place of the table is worth. It is found by itself: of the atoms ahead of it just those are reckoned that it hangs on, each once.
func (u units) atom(i int) (api.Worth, api.Errno) {
	lacking := []int{i}
search:
	for len(lacking) > 0 {
		last := len(lacking) - 1
		at := lacking[last]
		if _, ok := u.known[at]; ok {
			lacking = lacking[:last]
			continue
		}
		for _, term := range u.table.Atoms[at].Terms {
			if _, ok := u.known[term.Atom]; !ok {
				lacking = append(lacking, term.Atom)
				continue search
			}
		}
		w, err := u.reckon(u.table.Atoms[at])
		if err != api.OK {
			return api.Worth{}, err
		}
		u.known[at] = w
	}
	return u.known[i], api.OK
}

// reckon is what an atom is worth, where the worths of its terms' atoms are known.
func (u units) reckon(a api.Atom) (api.Worth, api.Errno) {
	w := one()
	if a.Base >= 0 {
		w.Dims[a.Base] = 1
		return w, api.OK
	}
	var err api.Errno
	if w.Frac, err = frac.Make(a.Num, a.Den, a.Ten); err != api.OK {
		return api.Worth{}, err
	}
	for _, term := range a.Terms {
		if w, err = times(w, u.known[term.Atom], term.Exp); err != api.OK {
			return api.Worth{}, err
		}
	}
	w.Tag = a.Tag // behind the terms, as a special unit is no factor
	return w, api.OK
}

// times is a worth times the power of another one.
func times(w, of api.Worth, power int) (api.Worth, api.Errno) {
	factor, err := worth.Pow(of, power)
	if err != api.OK {
		return api.Worth{}, err
	}
	return worth.Mul(w, factor)
}
