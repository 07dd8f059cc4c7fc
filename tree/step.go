package tree

import "drachm/api"

// none is the place of a prefix, and a depth of brackets, where there is none.
const none = -1

// takes is how many trees a step makes into one.
func takes(op int) int {
	switch op {
	case api.StepMul, api.StepDiv:
		return 2
	case api.StepInv, api.StepNote:
		return 1
	}
	return 0
}

// mayBe tells whether a step may be: it has nothing but what its kind has, and that is right.
func mayBe(table api.Table, x api.Step) bool {
	only := api.Step{Op: x.Op, Prefix: none}
	right := false
	switch x.Op {
	case api.StepNum:
		only.Num = x.Num
		right = x.Num >= 1 // no int64 is above MaxWhole
	case api.StepSym:
		only.Prefix, only.Atom, only.N = x.Prefix, x.Atom, x.N
		right = isSymbol(table, x.Prefix, x.Atom) && x.N >= -api.MaxDim && x.N <= api.MaxDim
	case api.StepMul, api.StepDiv, api.StepInv:
		right = true
	case api.StepNote, api.StepAlone:
		only.Text = x.Text
		right = isPlain(x.Text)
	}
	return right && x == only
}

// isSymbol tells whether there are such an atom and such a prefix, or none, and may stand together.
func isSymbol(table api.Table, prefix, atom int) bool {
	if atom < 0 || atom >= len(table.Atoms) {
		return false
	}
	if prefix == none {
		return true
	}
	return prefix >= 0 && prefix < len(table.Prefixes) && table.Atoms[atom].Metric
}

// isPlain tells whether each byte of a text is from 32 to 126: which notation has such a note is not asked here.
func isPlain(text string) bool {
	for at := range len(text) {
		if text[at] < ' ' || text[at] > '~' {
			return false
		}
	}
	return true
}

// shape is what is to be known of a tree, to set brackets around it: its last step, and how many brackets stand in one another within it.
type shape struct{ op, deep int }

// above is the shape of what a step makes of the trees that it takes. Around a left side no brackets ever stand, as a text is read from its left.
func above(op int, sides []shape) shape {
	out := shape{op: op}
	for i, side := range sides {
		if i == len(sides)-1 && bracketed(op, side.op) {
			side.deep++
		}
		out.deep = max(out.deep, side.deep)
	}
	return out
}

// bracketed tells whether brackets stand around a tree with that last step, as the right or only side of another step.
func bracketed(over, op int) bool {
	switch op {
	case api.StepMul, api.StepDiv, api.StepInv:
		return true
	case api.StepNote, api.StepAlone:
		return over == api.StepNote
	}
	return false
}
