package print

import (
	"slices"
	"strconv"
	"strings"

	"drachm/api"
)

// How closely a text holds, as the grammar calls it: a main comes apart wherever something stands beside it, an item where a note stands behind it, a base nowhere.
const (
	asMain = iota
	asItem
	asBase
)

// piece is the text of a tree, and how closely it holds.
type piece struct {
	text  string
	holds int
}

// written is the text of a tree, whose symbols have these codes; false, if it is too long.
func written(own api.Style, codes map[api.Term]string, t []api.Step) (string, bool) {
	var pieces []piece // those of which no step has made more yet
	take := func(fromEnd, least int) string {
		at := len(pieces) - fromEnd
		out := pieces[at]
		pieces = slices.Delete(pieces, at, at+1)
		if out.holds < least {
			return "(" + out.text + ")"
		}
		return out.text
	}
	put := func(holds int, texts ...string) {
		pieces = append(pieces, piece{text: strings.Join(texts, ""), holds: holds})
	}
	for _, x := range t {
		ahead := ""
		switch x.Op {
		case api.StepNum:
			put(asBase, strconv.FormatInt(x.Num, 10))
		case api.StepSym:
			put(asBase, raised(own, codes[termOf(x)], x.N))
		case api.StepMul, api.StepDiv:
			ahead = take(2, asMain)
			fallthrough
		case api.StepInv:
			put(asMain, ahead, operator(own, x.Op), take(1, asItem))
		case api.StepNote:
			ahead = take(1, asBase)
			fallthrough
		case api.StepAlone:
			put(asItem, ahead, string(own.Open), x.Text, string(own.Close))
		}
		// What is too long stays so, whatever comes of it: so no text grows on that will not be told.
		if len(pieces[len(pieces)-1].text) > api.MaxText {
			return "", false
		}
	}
	return pieces[0].text, true
}

// operator is what stands ahead of the right side, or of the only one.
func operator(own api.Style, op int) string {
	if op == api.StepMul {
		return string(own.Mul)
	}
	return string(own.Div)
}
