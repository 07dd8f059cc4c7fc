package tell_test

import (
	"strings"
	"testing"

	"drachm/api"
)

// P13.1, and T2: the document's examples.
func TestExamples(t *testing.T) {
	tells(t, 1, 2, "mmol/l", api.Told{Text: "MMOL/L"})
	tells(t, 1, 5, "mCel", api.Told{Err: errMiss, Name: "mCel"})
	tells(t, 1, 2, "mg/dl", api.Told{Text: "MG/DL"})
	tells(t, 1, 1, "mg/xyz", api.Told{Err: errSymbol, At: 3})
	tells(t, 1, 1, "(kg.((m)))/(s2)", api.Told{Text: "kg.m/s2"})
}

// row is what texts that mean the same are, by notations from 1 on; where there is none, the error of what is lacking is told.
type row struct {
	texts [notations + 1]string
	lacks api.Told
}

// P13.1: each pair of notations, with symbols, powers, numbers, brackets and notes, and what one of them lacks.
func TestEachPair(t *testing.T) {
	m := newModel()
	miss := func(at int, name string) api.Told { return api.Told{Err: errMiss, At: at, Name: name} }
	for _, r := range []row{
		{texts: [6]string{"", "m", "M", "m", "M", "m"}}, {texts: [6]string{"", "7", "7", "7", "7", "7"}}, {texts: [6]string{"", "mmol/l", "MMOL/L", "mmol/L", "MMOL/L", "mmol/l"}},
		{texts: [6]string{"", "m2", "M2", "m^2", "M2", "m^2"}}, {texts: [6]string{"", "/(m.s-99)", "/(M.S-99)", "/(m*s^-99)", "/(M.S-99)", "/(m.s^-99)"}}, {texts: [6]string{"", "m0", "M0", "m^0", "M0", "m^0"}},
		{texts: [6]string{"", "Pa.Ohm/Hz", "PAL.OHM/HZ", "Pa*Ohm/Hz", "PA.OHM/HZ", "Pa.ohm/Hz"}}, {texts: [6]string{"", "dar/h.d/a", "DAR/HR.D/ANN", "da/h*d/yr", "DARE/HR.D/ANN", "da/hr.d/yr"}},
		{texts: [6]string{"", "PV2/([in_i].3.u-1)", "PTV2/([IN_I].3.AMU-1)", "PV^2/(in*3*u^-1)", "PEV2/(IN.3.U-1)", "PV^2/(in.3.u^-1)"}}, {texts: [6]string{"", "GS/(/Mt.(min/[lb_av]))", "GASIE/(/MATNE.(MIN/[LB_AV]))", "GS/(/Mt*(min/lb))", "GSIE/(/MATNE.(MIN/LB))", "GS/(/Mt.(min/lb))"}},
		{[6]string{"", "k[iU]/dal", "K[IU]/DAL", "kIU/daL", "", "kIU/dal"}, miss(0, "k[iU]")}, {[6]string{"", "m.Cel-1", "M.CEL-1", "m*[oC]^-1", "M.CEL-1", ""}, miss(1, "Cel")}, {[6]string{"", "2.(s/%)", "2.(S/%)", "2*(s/%)", "", "2.(s/%)"}, miss(2, "%")},
		{[6]string{"", "m/Par2", "M/PTAR2", "", "M/PEARE2", ""}, miss(1, "Par")}, {[6]string{"", "s.s.pH", "S.S.PH", "", "S.S.PH", "s.s.pH"}, miss(3, "pH")}, {[6]string{"", "YOhm", "YAOHM", "YOhm", "", "Yohm"}, miss(0, "YOhm")}, {[6]string{"", "[dr_av]/m", "[DR_AV]/M", "dr/m", "", "dr/m"}, miss(0, "[dr_av]")},
		{[6]string{"", "m{x Y}", "M{x Y}", "m<x Y>", "", ""}, api.Told{Err: errNote, At: 1}}, {[6]string{"", "m/{}", "M/{}", "m/<>", "", ""}, api.Told{Err: errNote, At: 1}}, {[6]string{"", "(/kg){a}.({b}){m2.(}", "(/KG){a}.({b}){m2.(}", "(/kg)<a>*(<b>)<m2.(>", "", ""}, api.Told{Err: errNote, At: 2}},
		{[6]string{"", "m{<}", "M{<}", "", "", ""}, api.Told{Err: errNote, At: 1}}, {[6]string{"", "", "", "<{}>", "", ""}, api.Told{Err: errNote, At: 0}},
	} {
		for from := 1; from <= notations; from++ {
			for to := 1; to <= notations && r.texts[from] != ""; to++ {
				want := r.lacks
				if r.texts[to] != "" {
					want = api.Told{Text: r.texts[to]}
				}
				tells(t, from, to, r.texts[from], want)
				if !strings.Contains(r.texts[1], "{") && (from == 2 || from == 4) {
					tells(t, from, to, strings.ToLower(r.texts[from]), want)
				}
			}
			m.holds(t, from, r.texts[from])
		}
	}
}

// P13.1: a text is told as short as may be, in its own notation, too.
func TestWhatIsNotNeeded(t *testing.T) {
	for _, x := range []struct {
		from, to int
		s, want  string
	}{
		{1, 1, "((m))", "m"}, {1, 3, "((m.s)).(g)", "m*s*g"}, {1, 5, "(m+01)/((s-02))", "m/s^-2"}, {3, 1, "(m^+3)*(s^1)", "m3.s"}, {2, 1, "(mol)/(0007)", "mol/7"}, {4, 2, "m-0/((/pa))", "M0/(/PAL)"}, {5, 4, "((/m^+007)).(3/(4))", "/M7.(3/4)"}, {1, 3, "(m2){x}/((s){y})", "m^2<x>/s<y>"}, {3, 3, "((<x>)<y>)<>", "((<x>)<y>)<>"}, {2, 2, "(kg.((m)))/(s2)", "KG.M/S2"},
	} {
		tells(t, x.from, x.to, x.s, api.Told{Text: x.want})
	}
}

// P13.1: where one of the notations, or both, is none, that is told, of right texts, of those with another error, and of those that the other notation lacks.
func TestNoNotations(t *testing.T) {
	texts := []string{"", "m", "mmol/l", "m)", "mg/xyz", "m\xff", "Cel", "[oC]", "m{x}", "m<x>", strings.Repeat("m", 256), strings.Repeat("(", 40), strings.Repeat("%.", 1<<16)}
	for _, s := range texts {
		for _, none := range noNotations() {
			for n := 1; n <= notations; n++ {
				tells(t, none, n, s, api.Told{Err: errArg})
				tells(t, n, none, s, api.Told{Err: errArg})
			}
			for _, other := range noNotations() {
				tells(t, none, other, s, api.Told{Err: errArg})
			}
		}
	}
}

// wrong is a text that has an error in a notation, at a place.
type wrong struct {
	from int
	s    string
	err  api.Errno
	at   int
}

// P13.1: each error of parse is told with its place, whatever the other notation is, and lacks.
func TestErrorsOfParse(t *testing.T) {
	lefts := func(count int) string { return strings.Repeat("(", count) }
	for _, x := range []wrong{
		{1, strings.Repeat("m.", 127) + "mm", errLong, 0}, {1, "Cel{<}." + strings.Repeat("%", 300), errLong, 0}, {1, "\x00" + strings.Repeat("m", 255), errLong, 0}, {2, strings.Repeat("PAL.", 63) + "KPAL", errLong, 0}, {4, strings.Repeat("(", 256), errLong, 0}, {5, "xyz" + strings.Repeat("^", 1<<20), errLong, 0},
		{1, "", errSyntax, 0}, {2, "", errSyntax, 0}, {3, "", errSyntax, 0}, {4, "", errSyntax, 0}, {5, "", errSyntax, 0},
		{1, "m)", errSyntax, 1}, {1, "Cel.", errSyntax, 4}, {1, "Cel.{<}.[pH]..", errSyntax, 13}, {1, "Par.%.{<>}.m^2", errSyntax, 12}, {1, "xyz.Cel)", errSyntax, 7}, {1, "Cel{x", errSyntax, 3}, {1, "Cel m", errSyntax, 3}, {1, "Cel0100", errSyntax, 3}, {1, "Cel/0", errSyntax, 4}, {1, "Cel.9223372036854775808", errSyntax, 4}, {1, "\xb5m", errSyntax, 0}, {1, "Cel{\x1f}", errSyntax, 3},
		{3, "[oC]<{>*2m", errSyntax, 9}, {3, "[oC]2", errSyntax, 4}, {3, "[oC].m", errSyntax, 4}, {2, "cel.{<}.m^2", errSyntax, 9}, {4, "%{x}", errSyntax, 1}, {4, "ysie.m^2", errSyntax, 6}, {5, "%<x>", errSyntax, 1}, {5, "Zm^-", errSyntax, 4}, {5, "Zm*s", errSyntax, 2},
		{1, lefts(33), errDeep, 32}, {1, lefts(33) + "m" + strings.Repeat(")", 33), errDeep, 32}, {1, "Cel.{<}.(%/" + lefts(32), errDeep, 42}, {1, "xyz." + lefts(33) + "]", errDeep, 36}, {3, "[oC]*<{>/" + lefts(34), errDeep, 41}, {2, "cel/" + lefts(33) + ")", errDeep, 36}, {4, "cel/" + lefts(33), errDeep, 36}, {5, "%/" + lefts(33), errDeep, 34}, {1, lefts(32), errSyntax, 32}, {1, lefts(32) + ")" + lefts(2), errSyntax, 32},
		{1, "xyz", errSymbol, 0}, {1, "mg/xyz", errSymbol, 3}, {1, "Cel.{<}.[pH]/xyz2", errSymbol, 13}, {1, "Cel{x}.MMOL", errSymbol, 7}, {1, "%.%%", errSymbol, 2}, {3, "<{>*[oC]/Cel", errSymbol, 9}, {3, "pH*[pH]", errSymbol, 3}, {2, "{<}.cel.pas", errSymbol, 8}, {4, "cel.%", errSymbol, 4}, {4, "ysie", errSymbol, 0}, {5, "%.m.Cel", errSymbol, 4}, {5, "%.B", errSymbol, 2}, {1, strings.Repeat("Pa.", 84) + "xy", errSymbol, 252}, {1, strings.Repeat("m2.", 84) + "x", errSymbol, 252},
	} {
		for to := 1; to <= notations; to++ {
			tells(t, x.from, to, x.s, api.Told{Err: x.err, At: x.at})
		}
	}
}

// P13.1: what is missing is told with the place of its step, and its name in notation 1, whichever notations they are; its power is none of the name.
func TestMissing(t *testing.T) {
	for _, x := range []struct {
		from, to int
		s        string
		at       int
		name     string
	}{
		{1, 5, "Cel", 0, "Cel"}, {1, 5, "m.Cel", 1, "Cel"}, {1, 5, "/(m.Cel2)", 1, "Cel"}, {1, 5, "/(m.nCel-2)", 1, "nCel"}, {3, 5, "m*k[oC]^-2", 1, "kCel"}, {3, 5, "[oC]", 0, "Cel"}, {2, 5, "m.mcel", 1, "mCel"}, {2, 5, "M.MACEL0", 1, "MCel"}, {4, 5, "acel/kpa", 0, "aCel"}, {4, 5, "PECEL/KPA", 0, "PCel"},
		{1, 4, "%", 0, "%"}, {2, 4, "2.%2", 1, "%"}, {3, 4, "m*%^-1", 1, "%"}, {5, 4, "m.s.g.%", 5, "%"}, {1, 4, "m/(s.(g.%))", 3, "%"}, {1, 4, "m.s.[pH]", 3, "[pH]"}, {3, 4, "pH", 0, "[pH]"}, {3, 5, "pH^2", 0, "[pH]"}, {2, 5, "[ph]", 0, "[pH]"}, {3, 4, "dr", 0, "[dr_av]"}, {5, 4, "dr^-1", 0, "[dr_av]"}, {2, 4, "[dr_av]", 0, "[dr_av]"}, {5, 4, "IU", 0, "[iU]"}, {5, 4, "daIU", 0, "da[iU]"}, {1, 4, "B", 0, "B"}, {3, 5, "dB", 0, "dB"}, {2, 4, "db", 0, "dB"},
		// the prefix alone has no code there
		{1, 4, "Ym", 0, "Ym"}, {2, 4, "YOHZ", 0, "yHz"}, {2, 4, "s.zosie3", 1, "zS"}, {5, 4, "Zohm", 0, "ZOhm"}, {3, 4, "zL", 0, "zl"}, {3, 4, "m/ya^2", 1, "yar"}, {5, 4, "Yu", 0, "Yu"},
		// there is a text, but it is that of something else
		{1, 3, "Par", 0, "Par"}, {1, 5, "2.Par-2", 1, "Par"}, {2, 3, "ptar", 0, "Par"}, {4, 5, "PEARE", 0, "Par"}, {1, 3, "m.pH", 1, "pH"}, {5, 3, "pH", 0, "pH"}, {4, 3, "PH", 0, "pH"}, {2, 3, "ph", 0, "pH"}, {1, 4, "pA", 0, "pA"}, {3, 4, "pA", 0, "pA"}, {1, 4, "EV", 0, "EV"}, {5, 4, "m.peV", 1, "peV"},
		// of several the first one, and it may stand there again
		{1, 5, "Cel.[pH]", 0, "Cel"}, {1, 5, "[pH].Cel", 0, "[pH]"}, {1, 5, "m.[pH].Cel", 1, "[pH]"}, {1, 4, "m/(Ym.(%/B))", 1, "Ym"}, {1, 5, "kCel.Cel.kCel", 0, "kCel"}, {1, 3, "ar.Ps.Par.Par", 3, "Par"},
		{1, 5, "Cel{x}", 0, "Cel"}, {1, 5, "m.Cel{x}", 1, "Cel"}, {3, 5, "[oC]*<x>", 0, "Cel"}, {1, 3, "Par.m{<}", 0, "Par"}, {1, 4, "m.(%.{x})", 1, "%"},
	} {
		tells(t, x.from, x.to, x.s, api.Told{Err: errMiss, At: x.at, Name: x.name})
	}
}

// P13.1: a note that may not be is told with the place of its step, and no name, though a symbol that is missing stands behind it.
func TestNotes(t *testing.T) {
	for _, x := range []struct {
		from, to int
		s        string
		at       int
	}{
		{1, 4, "m{x}", 1}, {1, 5, "{x}", 0}, {2, 4, "{}", 0}, {2, 5, "m.s{}", 2}, {3, 4, "<a>/m", 0}, {3, 5, "2/m<a>", 2}, {1, 5, "m{x}.Cel", 1}, {1, 4, "{x}.%", 0}, {1, 4, "m.s{x}.%{y}", 2}, {3, 5, "m*(<x>/[oC])", 1},
		{1, 3, "m{<}", 1}, {1, 3, "{>}", 0}, {2, 3, "m{a>b}", 1}, {2, 3, "{x}.{<}.{>}", 1}, {3, 1, "m<{>", 1}, {3, 2, "<}>", 0}, {3, 1, "m<x>*s<a{b>/g<}>", 3}, {1, 3, "m{<}.Par", 1}, {1, 3, "m.{<>}/Par", 1}, {3, 2, "m<a}>/[oC]", 1},
	} {
		tells(t, x.from, x.to, x.s, api.Told{Err: errNote, At: x.at})
	}
	for _, x := range []struct {
		from, to int
		s, want  string
	}{
		{1, 2, "m{<>}", "M{<>}"}, {2, 1, "{a<b}", "{a<b}"}, {3, 3, "m<{}>", "m<{}>"}, {1, 3, "m{aB (]^*.}", "m<aB (]^*.>"}, {3, 2, "m<aB (]^*.>", "M{aB (]^*.}"}, {2, 1, "mol{mol}", "mol{mol}"}, {2, 3, "{ }", "< >"},
	} {
		tells(t, x.from, x.to, x.s, api.Told{Text: x.want})
	}
}
