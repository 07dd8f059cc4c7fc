package atoms

import (
	"drachm/api"
	"drachm/frac"
)

// none is the place of a row, or the number of a base, where there is none.
const none = -1

// How far the parts of a row go; a prefix has no more tens than maxTen, up and down.
const (
	maxTag   = 99
	maxTerms = 9
	maxPower = 9
	maxTen   = 30
)

// wrongAtom is the place of the first atom that is not right.
func wrongAtom(t api.Table, was seen) int {
	wrong := none
rows:
	for place, atom := range Each(t) {
		if !was.add(atom.Codes) || !rightWorth(atom) {
			wrong = place
			break rows
		}
		for _, term := range atom.Terms {
			if !rightTerm(term, t.Atoms[:place]) {
				wrong = place
				break rows
			}
		}
	}
	return wrong
}

// wrongPrefix is the place of the first prefix that is not right, among the prefixes.
func wrongPrefix(t api.Table, was seen) int {
	for place, prefix := range t.Prefixes {
		if !was.add(prefix.Codes) || !within(prefix.Ten, maxTen) {
			return place
		}
	}
	return none
}

// code is a code of a notation: that notation, and the letters, behind which there is nothing. Two are the same if both of these are.
type code [1 + api.MaxCode]byte

// seen are the codes that the rows have up to now.
type seen map[code]bool

// add puts the codes of one more row there; false, if it has none in the first notation, or one is no code, or was there already.
func (s seen) add(called [api.Notations]string) bool {
	if called[api.Sensitive-1] == "" {
		return false
	}
	for i, text := range called {
		if text == "" {
			continue
		}
		c, ok := codeOf(i+1, text)
		if !ok || s[c] {
			return false
		}
		s[c] = true
	}
	return true
}

// codeOf is a text as a code of a notation; false, if it is none.
func codeOf(notation int, text string) (code, bool) {
	if len(text) < 1 || len(text) > api.MaxCode {
		return code{}, false
	}
	c := code{byte(notation)}
	for i := range len(text) {
		if !letter(notation, text[i]) {
			return code{}, false
		}
		c[1+i] = text[i]
	}
	return c, true
}

// letter tells whether a byte is a letter of codes, and may stand in those of a notation.
func letter(notation int, b byte) bool {
	switch {
	case 'a' <= b && b <= 'z':
		return notation != api.Folded && notation != api.Iso
	case 'A' <= b && b <= 'Z':
		return true
	}
	return b == '%' || b == '\'' || b == '_' || b == '[' || b == ']'
}

// rightWorth tells whether all of an atom is right but its codes, and what its terms are.
func rightWorth(a api.Atom) bool {
	switch {
	case a.Tag < 0 || a.Tag > maxTag:
		return false
	case a.Base >= 0 && a.Base < len(api.Dims{}):
		return a.Num == 1 && a.Den == 1 && a.Ten == 0 && a.Tag == 0 && len(a.Terms) == 0
	case a.Base != none || len(a.Terms) > maxTerms:
		return false
	}
	number, err := frac.Make(a.Num, a.Den, a.Ten)
	return err == api.OK && number.Num != 0
}

// rightTerm tells whether a term is a power of one of the atoms ahead, and of a plain one.
func rightTerm(term api.Term, ahead []api.Atom) bool {
	if term.Atom < 0 || term.Atom >= len(ahead) || ahead[term.Atom].Tag != 0 {
		return false
	}
	return term.Exp != 0 && within(term.Exp, maxPower)
}

func within(n, limit int) bool { return n >= -limit && n <= limit }
