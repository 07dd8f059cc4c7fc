package symbol

import (
	"iter"
	"strings"

	"drachm/api"
	"drachm/atoms"
)

// none is the place of a prefix, or of an atom, where there is none.
const none = -1

// notation is what a notation has of the table. It has the table once, as many of its codes are asked for until one symbol is found.
type notation struct {
	api.Table
	number int
}

// of is what a notation has; one that there is not has no rows, so that nothing is told or found of it.
func of(n int) notation {
	if n < 1 || n > api.Notations {
		return notation{}
	}
	return notation{Table: atoms.Table(), number: n}
}

func (o notation) atomCode(place int) string {
	if place < 0 || place >= len(o.Atoms) {
		return ""
	}
	return o.Atoms[place].Codes[o.number-1]
}

func (o notation) prefixCode(place int) string {
	if place < 0 || place >= len(o.Prefixes) {
		return ""
	}
	return o.Prefixes[place].Codes[o.number-1]
}

// atomCalled is the place of the atom that has a code.
func (o notation) atomCalled(code string) int {
	if code == "" { // what has no code is not called so
		return none
	}
	for place := range o.Atoms {
		if o.atomCode(place) == code {
			return place
		}
	}
	return none
}

// find is what a symbol is.
func (o notation) find(s string) (prefix, atom int, ok bool) {
	if whole := o.atomCalled(s); whole != none {
		return none, whole, true
	}
	prefix, atom = none, none
	isMetric := func(left string) bool {
		place := o.atomCalled(left)
		if place == none || !o.Atoms[place].Metric {
			return false
		}
		atom = place
		return true
	}
tries:
	for place := range o.Prefixes {
		// A prefix without a code leaves all of s, which is no atom.
		left, begins := strings.CutPrefix(s, o.prefixCode(place))
		switch {
		case !begins:
			continue
		case isMetric(left):
			prefix = place
			break tries
		}
	}
	return prefix, atom, atom != none
}

// text is the code of a prefix, and of an atom; nothing, if one is lacking, or they may not stand together.
func (o notation) text(prefix, atom int) string {
	code := o.atomCode(atom)
	if code == "" || prefix == none {
		return code
	}
	ahead := o.prefixCode(prefix)
	if ahead == "" || !o.Atoms[atom].Metric {
		return ""
	}
	return ahead + code
}

// told tells whether these have a text that is found to be these, and not something else.
func (o notation) told(prefix, atom int) bool {
	foundPrefix, foundAtom, ok := o.find(o.text(prefix, atom))
	return ok && foundPrefix == prefix && foundAtom == atom
}

// texts tells all texts that there are, also those that are found to be something else: atoms alone, then, prefix by prefix, atoms behind it.
func (o notation) texts() iter.Seq2[string, api.Term] {
	return func(yield func(string, api.Term) bool) {
		for prefix := none; prefix < len(o.Prefixes); prefix++ {
			for atom := range o.Atoms {
				text := o.text(prefix, atom)
				if text != "" && !yield(text, api.Term{Atom: atom, Exp: prefix}) {
					return
				}
			}
		}
	}
}
