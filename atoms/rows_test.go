package atoms_test

// atomRows is the document's table of atoms: place, codes by notations, whether it is metric, tag, worth.
const atomRows = `
0|m|M|m|M|m|yes|0|base 0
1|s|S|s|S|s|yes|0|base 1
2|g|G|g|G|g|yes|0|base 2
3|rad|RAD|rad|RAD|rad|yes|0|base 3
4|K|K|K|K|K|yes|0|base 4
5|C|C|C|C|C|yes|0|base 5
6|cd|CD|cd|CD|cd|yes|0|base 6
7|%|%|%||%|no|0|1 e-2
8|mol|MOL|mol|MOL|mol|yes|0|602214076 e15
9|sr|SR|sr|SR|sr|yes|0|1 3^2
10|Hz|HZ|Hz|HZ|Hz|yes|0|1 1^-1
11|N|N|N|N|N|yes|0|1 e3 2^1 0^1 1^-2
12|Pa|PAL|Pa|PA|Pa|yes|0|1 11^1 0^-2
13|J|J|J|J|J|yes|0|1 11^1 0^1
14|W|W|W|W|W|yes|0|1 13^1 1^-1
15|A|A|A|A|A|yes|0|1 5^1 1^-1
16|V|V|V|V|V|yes|0|1 13^1 5^-1
17|F|F|F|F|F|yes|0|1 5^1 16^-1
18|Ohm|OHM|Ohm|OHM|ohm|yes|0|1 16^1 15^-1
19|S|SIE|S|SIE|S|yes|0|1 18^-1
20|Wb|WB|Wb|WB|Wb|yes|0|1 16^1 1^1
21|Cel|CEL|[oC]|CEL||yes|1|1 4^1
22|T|T|T|T|T|yes|0|1 20^1 0^-2
23|H|H|H|H|H|yes|0|1 20^1 15^-1
24|lm|LM|lm|LM|lm|yes|0|1 6^1 9^1
25|lx|LX|lx|LX|lx|yes|0|1 24^1 0^-2
26|Bq|BQ|Bq|BQ|Bq|yes|0|1 1^-1
27|Gy|GY|Gy|GY|Gy|yes|0|1 e-3 13^1 2^-1
28|Sv|SV|Sv|SV|Sv|yes|0|1 e-3 13^1 2^-1
29|l|L|L|L|l|yes|0|1 e-3 0^3
30|ar|AR|a|ARE|a|yes|0|1 e2 0^2
31|min|MIN|min|MIN|min|no|0|6 e1 1^1
32|h|HR|h|HR|hr|no|0|36 e2 1^1
33|d|D|d|D|d|no|0|24 32^1
34|a|ANN|yr|ANN|yr|no|0|36525 e-2 33^1
35|t|TNE|t|TNE|t|yes|0|1 e6 2^1
36|bar|BAR|bar|BAR|bar|yes|0|1 e5 12^1
37|[in_i]|[IN_I]|in|IN|in|no|0|254 e-4 0^1
38|[lb_av]|[LB_AV]|lb|LB|lb|no|0|45359237 e-5 2^1
39|[pH]|[PH]|pH|||no|2|1 8^1 29^-1
40|B|B|B|||yes|3|1
41|[iU]|[IU]|IU||IU|yes|0|1
42|eq|EQ|eq|EQ|eq|yes|0|1 8^1
43|osm|OSM|osm|OSM|osm|yes|0|1 8^1
44|kat|KAT|kat|KAT|kat|yes|0|1 8^1 1^-1
45|u|AMU|u|U|u|yes|0|16605390666 e-34 2^1
46|eV|EV|eV|EV|eV|yes|0|1602176634 e-28 13^1
47|[dr_av]|[DR_AV]|dr||dr|no|0|1/256 38^1
`

// prefixRows is the document's table of prefixes: place, codes by notations, power of ten.
const prefixRows = `
0|Y|YA|Y||Y|24
1|Z|ZA|Z||Z|21
2|E|EX|E|E|E|18
3|P|PT|P|PE|P|15
4|T|TR|T|T|T|12
5|G|GA|G|G|G|9
6|M|MA|M|MA|M|6
7|k|K|k|K|k|3
8|h|H|h|H|h|2
9|da|DA|da|DA|da|1
10|d|D|d|D|d|-1
11|c|C|c|C|c|-2
12|m|M|m|M|m|-3
13|u|U|u|U|u|-6
14|n|N|n|N|n|-9
15|p|P|p|P|p|-12
16|f|F|f|F|f|-15
17|a|A|a|A|a|-18
18|z|ZO|z||z|-21
19|y|YO|y||y|-24
`
