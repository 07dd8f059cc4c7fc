package alike_test

import (
	"math"
	"strings"

	"drachm/api"
)

// unit is a unit's text in each notation (nothing, where there is none), and what it is worth, reckoned by hand from the document's table: the number, the dims, and the tag.
type unit struct {
	texts          [notations]string
	number, powers string
	tag            int
}

// worth is what a unit is worth.
func (u unit) worth() api.Worth { return of(u.number, u.powers, u.tag) }

// same is one text in each notation.
func same(text string) [notations]string {
	var out [notations]string
	for n := range out {
		out[n] = text
	}
	return out
}

// units are some of each kind that are alike.
func units() []unit {
	return []unit{
		{same("1"), "1", "", 0}, {same("10"), "1e1", "", 0}, {same("(2/3)"), "2/3", "", 0}, {[notations]string{"%", "%", "%", "", "%"}, "1e-2", "", 0}, {[notations]string{"{x}", "{x}", "<x>", "", ""}, "1", "", 0}, {[notations]string{"mol", "MOL", "mol", "MOL", "mol"}, "602214076e15", "", 0}, {[notations]string{"[iU]", "[IU]", "IU", "", "IU"}, "1", "", 0},
		{same("9223372036854775807"), "9223372036854775807", "", 0}, {same("9223372036854775806"), "9223372036854775806", "", 0}, {same("/9223372036854775807"), "1/9223372036854775807", "", 0},
		{[notations]string{"B", "B", "B", "", ""}, "1", "", 3}, {[notations]string{"dB{x}", "DB{x}", "dB<x>", "", ""}, "1e-1", "", 3},
		{[notations]string{"m", "M", "m", "M", "m"}, "1", "m1", 0}, {[notations]string{"km", "KM", "km", "KM", "km"}, "1e3", "m1", 0}, {[notations]string{"[in_i]", "[IN_I]", "in", "IN", "in"}, "254e-4", "m1", 0},
		{[notations]string{"km/h", "KM/HR", "km/h", "KM/HR", "km/hr"}, "25/9e-1", "m1s-1", 0}, {[notations]string{"m.s-1", "M.S-1", "m*s^-1", "M.S-1", "m.s^-1"}, "1", "m1s-1", 0},
		{[notations]string{"min", "MIN", "min", "MIN", "min"}, "6e1", "s1", 0}, {[notations]string{"h", "HR", "h", "HR", "hr"}, "36e2", "s1", 0}, {[notations]string{"d", "D", "d", "D", "d"}, "864e2", "s1", 0}, {[notations]string{"a", "ANN", "yr", "ANN", "yr"}, "315576e2", "s1", 0},
		{[notations]string{"mg/dl", "MG/DL", "mg/dL", "MG/DL", "mg/dl"}, "1e1", "m-3g1", 0}, {[notations]string{"g/l", "G/L", "g/L", "G/L", "g/l"}, "1e3", "m-3g1", 0},
		{[notations]string{"mmol/l", "MMOL/L", "mmol/L", "MMOL/L", "mmol/l"}, "602214076e15", "m-3", 0}, {[notations]string{"[pH]", "[PH]", "pH", "", ""}, "602214076e18", "m-3", 2},
		{[notations]string{"K", "K", "K", "K", "K"}, "1", "k1", 0}, {[notations]string{"Cel", "CEL", "[oC]", "CEL", ""}, "1", "k1", 1}, {[notations]string{"mCel", "MCEL", "m[oC]", "MCEL", ""}, "1e-3", "k1", 1},
		{[notations]string{"Gy", "GY", "Gy", "GY", "Gy"}, "1", "m2s-2", 0}, {[notations]string{"Sv", "SV", "Sv", "SV", "Sv"}, "1", "m2s-2", 0}, {[notations]string{"J/kg", "J/KG", "J/kg", "J/KG", "J/kg"}, "1", "m2s-2", 0},
		{[notations]string{"bar", "BAR", "bar", "BAR", "bar"}, "1e8", "m-1s-2g1", 0}, {[notations]string{"kPa", "KPAL", "kPa", "KPA", "kPa"}, "1e6", "m-1s-2g1", 0}, {[notations]string{"kN/cm2", "KN/CM2", "kN/cm^2", "KN/CM2", "kN/cm^2"}, "1e10", "m-1s-2g1", 0},
		{[notations]string{"sr", "SR", "sr", "SR", "sr"}, "1", "r2", 0}, {[notations]string{"rad2", "RAD2", "rad^2", "RAD2", "rad^2"}, "1", "r2", 0},
		{[notations]string{"eV", "EV", "eV", "EV", "eV"}, "1602176634e-25", "m2s-2g1", 0}, {[notations]string{"C.V", "C.V", "C*V", "C.V", "C.V"}, "1e3", "m2s-2g1", 0},
		{[notations]string{"u", "AMU", "u", "U", "u"}, "16605390666e-34", "g1", 0}, {[notations]string{"[lb_av]", "[LB_AV]", "lb", "LB", "lb"}, "45359237e-5", "g1", 0}, {[notations]string{"t", "TNE", "t", "TNE", "t"}, "1e6", "g1", 0},
		{[notations]string{"Ym41", "YAM41", "Ym^41", "", "Ym^41"}, "1e984", "m41", 0}, {[notations]string{"ym41", "YOM41", "ym^41", "", "ym^41"}, "1e-984", "m41", 0},
	}
}

// bad is a text in each notation that comes to an error.
type bad struct {
	texts [notations]string
	err   api.Errno
}

// bads are texts of each error that one of them may come to by itself: of what it says, and of what it is worth.
func bads() []bad {
	return []bad{
		{same(""), errSyntax}, {same("("), errSyntax}, {same("m)"), errSyntax}, {same("\xff"), errSyntax}, {same("0"), errSyntax}, {same("M/Q("), errSyntax}, {same("9223372036854775808"), errSyntax},
		{same("q"), errSymbol}, {same("Q"), errSymbol}, {same("s/XYZ/(9223372036854775807/2)"), errSymbol},
		{same(strings.Repeat("(", maxNest+1) + "1" + strings.Repeat(")", maxNest+1)), errDeep}, {same(strings.Repeat("(", maxNest+1)), errDeep},
		{same(strings.Repeat("1", maxText+1)), errLong}, {same(strings.Repeat("(", maxText+1)), errLong}, {same(strings.Repeat("\xff", 1<<20)), errLong},
		{same("9223372036854775807/2"), errOver}, {[notations]string{"m99.m", "M99.M", "m^99*m", "M99.M", "m^99.m"}, errOver}, {[notations]string{"mol3", "MOL3", "mol^3", "MOL3", "mol^3"}, errOver},
		{[notations]string{"Cel.m", "CEL.M", "[oC]*m", "CEL.M", ""}, errSpecial}, {[notations]string{"/[pH]", "/[PH]", "/pH", "", ""}, errSpecial}, {[notations]string{"B2", "B2", "B^2", "", ""}, errSpecial},
	}
}

// asked is a text, and the unit that it is, or the error that it comes to.
type asked struct {
	text  string
	worth api.Worth
	err   api.Errno
}

// inNotation are all texts that there are in a notation.
func inNotation(n int) []asked {
	var out []asked
	for _, u := range units() {
		if text := u.texts[n-1]; text != "" {
			out = append(out, asked{text: text, worth: u.worth()})
		}
	}
	for _, b := range bads() {
		if text := b.texts[n-1]; text != "" || b.err == errSyntax {
			out = append(out, asked{text: text, err: b.err})
		}
	}
	return out
}

// many is what Many tells of two texts, by the document.
func many(s, t asked) answer {
	switch {
	case s.err != 0:
		return told(api.Frac{}, s.err, 0)
	case t.err != 0:
		return told(api.Frac{}, t.err, 1)
	}
	out := howMany(s.worth, t.worth)
	out.which = 2
	return out
}

// noNotations are numbers of none.
func noNotations() []int {
	return []int{0, -1, 6, 7, -5, 255, 256, 257, 1 << 32, 1<<32 + 1, math.MaxInt, math.MinInt, math.MinInt + 1}
}

// brief is a text that is short enough to be told of.
func brief(text string) string { return text[:min(len(text), 40)] }
