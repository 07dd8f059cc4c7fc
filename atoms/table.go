package atoms

import (
	"slices"

	"drachm/api"
)

// codes are what an atom, or a prefix, is called, by notations; it has none where it is empty.
type codes [api.Notations]string

type terms []api.Term

// to is an atom, by its place, to a power.
func to(atom, power int) api.Term { return api.Term{Atom: atom, Exp: power} }

// Table is the table of units, and of prefixes. It is made anew by each call, so that whoever changes one changes that one alone.
func Table() api.Table {
	return api.Table{Atoms: slices.Concat(bases(), derived(), others()), Prefixes: prefixes()}
}

// bases are the atoms 0 to 6, each of which is the base of its own place.
func bases() []api.Atom {
	called := [...]codes{
		{"m", "M", "m", "M", "m"},
		{"s", "S", "s", "S", "s"},
		{"g", "G", "g", "G", "g"},
		{"rad", "RAD", "rad", "RAD", "rad"},
		{"K", "K", "K", "K", "K"},
		{"C", "C", "C", "C", "C"},
		{"cd", "CD", "cd", "CD", "cd"},
	}
	out := make([]api.Atom, 0, len(called))
	for base, c := range called {
		out = append(out, api.Atom{Codes: c, Metric: true, Base: base, Num: 1, Den: 1})
	}
	return out
}

// derived are the atoms 7 to 28: what is counted, or made of the bases and of one another.
func derived() []api.Atom {
	return filled([]api.Atom{
		{Codes: codes{"%", "%", "%", "", "%"}, Ten: -2},
		{Codes: codes{"mol", "MOL", "mol", "MOL", "mol"}, Metric: true, Num: 602214076, Ten: 15},
		{Codes: codes{"sr", "SR", "sr", "SR", "sr"}, Metric: true, Terms: terms{to(3, 2)}},
		{Codes: codes{"Hz", "HZ", "Hz", "HZ", "Hz"}, Metric: true, Terms: terms{to(1, -1)}},
		{Codes: codes{"N", "N", "N", "N", "N"}, Metric: true, Ten: 3, Terms: terms{to(2, 1), to(0, 1), to(1, -2)}},
		{Codes: codes{"Pa", "PAL", "Pa", "PA", "Pa"}, Metric: true, Terms: terms{to(11, 1), to(0, -2)}},
		{Codes: codes{"J", "J", "J", "J", "J"}, Metric: true, Terms: terms{to(11, 1), to(0, 1)}},
		{Codes: codes{"W", "W", "W", "W", "W"}, Metric: true, Terms: terms{to(13, 1), to(1, -1)}},
		{Codes: codes{"A", "A", "A", "A", "A"}, Metric: true, Terms: terms{to(5, 1), to(1, -1)}},
		{Codes: codes{"V", "V", "V", "V", "V"}, Metric: true, Terms: terms{to(13, 1), to(5, -1)}},
		{Codes: codes{"F", "F", "F", "F", "F"}, Metric: true, Terms: terms{to(5, 1), to(16, -1)}},
		{Codes: codes{"Ohm", "OHM", "Ohm", "OHM", "ohm"}, Metric: true, Terms: terms{to(16, 1), to(15, -1)}},
		{Codes: codes{"S", "SIE", "S", "SIE", "S"}, Metric: true, Terms: terms{to(18, -1)}},
		{Codes: codes{"Wb", "WB", "Wb", "WB", "Wb"}, Metric: true, Terms: terms{to(16, 1), to(1, 1)}},
		{Codes: codes{"Cel", "CEL", "[oC]", "CEL", ""}, Metric: true, Tag: 1, Terms: terms{to(4, 1)}},
		{Codes: codes{"T", "T", "T", "T", "T"}, Metric: true, Terms: terms{to(20, 1), to(0, -2)}},
		{Codes: codes{"H", "H", "H", "H", "H"}, Metric: true, Terms: terms{to(20, 1), to(15, -1)}},
		{Codes: codes{"lm", "LM", "lm", "LM", "lm"}, Metric: true, Terms: terms{to(6, 1), to(9, 1)}},
		{Codes: codes{"lx", "LX", "lx", "LX", "lx"}, Metric: true, Terms: terms{to(24, 1), to(0, -2)}},
		{Codes: codes{"Bq", "BQ", "Bq", "BQ", "Bq"}, Metric: true, Terms: terms{to(1, -1)}},
		{Codes: codes{"Gy", "GY", "Gy", "GY", "Gy"}, Metric: true, Ten: -3, Terms: terms{to(13, 1), to(2, -1)}},
		{Codes: codes{"Sv", "SV", "Sv", "SV", "Sv"}, Metric: true, Ten: -3, Terms: terms{to(13, 1), to(2, -1)}},
	})
}

// others are the atoms 29 to 47: those in use beside them.
func others() []api.Atom {
	return filled([]api.Atom{
		{Codes: codes{"l", "L", "L", "L", "l"}, Metric: true, Ten: -3, Terms: terms{to(0, 3)}},
		{Codes: codes{"ar", "AR", "a", "ARE", "a"}, Metric: true, Ten: 2, Terms: terms{to(0, 2)}},
		{Codes: codes{"min", "MIN", "min", "MIN", "min"}, Num: 6, Ten: 1, Terms: terms{to(1, 1)}},
		{Codes: codes{"h", "HR", "h", "HR", "hr"}, Num: 36, Ten: 2, Terms: terms{to(1, 1)}},
		{Codes: codes{"d", "D", "d", "D", "d"}, Num: 24, Terms: terms{to(32, 1)}},
		{Codes: codes{"a", "ANN", "yr", "ANN", "yr"}, Num: 36525, Ten: -2, Terms: terms{to(33, 1)}},
		{Codes: codes{"t", "TNE", "t", "TNE", "t"}, Metric: true, Ten: 6, Terms: terms{to(2, 1)}},
		{Codes: codes{"bar", "BAR", "bar", "BAR", "bar"}, Metric: true, Ten: 5, Terms: terms{to(12, 1)}},
		{Codes: codes{"[in_i]", "[IN_I]", "in", "IN", "in"}, Num: 254, Ten: -4, Terms: terms{to(0, 1)}},
		{Codes: codes{"[lb_av]", "[LB_AV]", "lb", "LB", "lb"}, Num: 45359237, Ten: -5, Terms: terms{to(2, 1)}},
		{Codes: codes{"[pH]", "[PH]", "pH", "", ""}, Tag: 2, Terms: terms{to(8, 1), to(29, -1)}},
		{Codes: codes{"B", "B", "B", "", ""}, Metric: true, Tag: 3},
		{Codes: codes{"[iU]", "[IU]", "IU", "", "IU"}, Metric: true},
		{Codes: codes{"eq", "EQ", "eq", "EQ", "eq"}, Metric: true, Terms: terms{to(8, 1)}},
		{Codes: codes{"osm", "OSM", "osm", "OSM", "osm"}, Metric: true, Terms: terms{to(8, 1)}},
		{Codes: codes{"kat", "KAT", "kat", "KAT", "kat"}, Metric: true, Terms: terms{to(8, 1), to(1, -1)}},
		{Codes: codes{"u", "AMU", "u", "U", "u"}, Metric: true, Num: 16605390666, Ten: -34, Terms: terms{to(2, 1)}},
		{Codes: codes{"eV", "EV", "eV", "EV", "eV"}, Metric: true, Num: 1602176634, Ten: -28, Terms: terms{to(13, 1)}},
		{Codes: codes{"[dr_av]", "[DR_AV]", "dr", "", "dr"}, Den: 256, Terms: terms{to(38, 1)}},
	})
}

// filled are atoms that are no bases, with the numbers that a row leaves out: 1, and by 1.
func filled(rows []api.Atom) []api.Atom {
	for i := range rows {
		rows[i].Base = -1
		rows[i].Num = max(rows[i].Num, 1)
		rows[i].Den = max(rows[i].Den, 1)
	}
	return rows
}

func prefixes() []api.Prefix {
	return []api.Prefix{
		{Codes: codes{"Y", "YA", "Y", "", "Y"}, Ten: 24},
		{Codes: codes{"Z", "ZA", "Z", "", "Z"}, Ten: 21},
		{Codes: codes{"E", "EX", "E", "E", "E"}, Ten: 18},
		{Codes: codes{"P", "PT", "P", "PE", "P"}, Ten: 15},
		{Codes: codes{"T", "TR", "T", "T", "T"}, Ten: 12},
		{Codes: codes{"G", "GA", "G", "G", "G"}, Ten: 9},
		{Codes: codes{"M", "MA", "M", "MA", "M"}, Ten: 6},
		{Codes: codes{"k", "K", "k", "K", "k"}, Ten: 3},
		{Codes: codes{"h", "H", "h", "H", "h"}, Ten: 2},
		{Codes: codes{"da", "DA", "da", "DA", "da"}, Ten: 1},
		{Codes: codes{"d", "D", "d", "D", "d"}, Ten: -1},
		{Codes: codes{"c", "C", "c", "C", "c"}, Ten: -2},
		{Codes: codes{"m", "M", "m", "M", "m"}, Ten: -3},
		{Codes: codes{"u", "U", "u", "U", "u"}, Ten: -6},
		{Codes: codes{"n", "N", "n", "N", "n"}, Ten: -9},
		{Codes: codes{"p", "P", "p", "P", "p"}, Ten: -12},
		{Codes: codes{"f", "F", "f", "F", "f"}, Ten: -15},
		{Codes: codes{"a", "A", "a", "A", "a"}, Ten: -18},
		{Codes: codes{"z", "ZO", "z", "", "z"}, Ten: -21},
		{Codes: codes{"y", "YO", "y", "", "y"}, Ten: -24},
	}
}
