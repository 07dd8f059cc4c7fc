package symbol_test

// atomRows are the document's atoms: place, codes by notations, whether it is metric.
const atomRows = `
0|m|M|m|M|m|yes
1|s|S|s|S|s|yes
2|g|G|g|G|g|yes
3|rad|RAD|rad|RAD|rad|yes
4|K|K|K|K|K|yes
5|C|C|C|C|C|yes
6|cd|CD|cd|CD|cd|yes
7|%|%|%||%|no
8|mol|MOL|mol|MOL|mol|yes
9|sr|SR|sr|SR|sr|yes
10|Hz|HZ|Hz|HZ|Hz|yes
11|N|N|N|N|N|yes
12|Pa|PAL|Pa|PA|Pa|yes
13|J|J|J|J|J|yes
14|W|W|W|W|W|yes
15|A|A|A|A|A|yes
16|V|V|V|V|V|yes
17|F|F|F|F|F|yes
18|Ohm|OHM|Ohm|OHM|ohm|yes
19|S|SIE|S|SIE|S|yes
20|Wb|WB|Wb|WB|Wb|yes
21|Cel|CEL|[oC]|CEL||yes
22|T|T|T|T|T|yes
23|H|H|H|H|H|yes
24|lm|LM|lm|LM|lm|yes
25|lx|LX|lx|LX|lx|yes
26|Bq|BQ|Bq|BQ|Bq|yes
27|Gy|GY|Gy|GY|Gy|yes
28|Sv|SV|Sv|SV|Sv|yes
29|l|L|L|L|l|yes
30|ar|AR|a|ARE|a|yes
31|min|MIN|min|MIN|min|no
32|h|HR|h|HR|hr|no
33|d|D|d|D|d|no
34|a|ANN|yr|ANN|yr|no
35|t|TNE|t|TNE|t|yes
36|bar|BAR|bar|BAR|bar|yes
37|[in_i]|[IN_I]|in|IN|in|no
38|[lb_av]|[LB_AV]|lb|LB|lb|no
39|[pH]|[PH]|pH|||no
40|B|B|B|||yes
41|[iU]|[IU]|IU||IU|yes
42|eq|EQ|eq|EQ|eq|yes
43|osm|OSM|osm|OSM|osm|yes
44|kat|KAT|kat|KAT|kat|yes
45|u|AMU|u|U|u|yes
46|eV|EV|eV|EV|eV|yes
47|[dr_av]|[DR_AV]|dr||dr|no
`

// prefixRows are its prefixes: place, codes by notations.
const prefixRows = `
0|Y|YA|Y||Y
1|Z|ZA|Z||Z
2|E|EX|E|E|E
3|P|PT|P|PE|P
4|T|TR|T|T|T
5|G|GA|G|G|G
6|M|MA|M|MA|M
7|k|K|k|K|k
8|h|H|h|H|h
9|da|DA|da|DA|da
10|d|D|d|D|d
11|c|C|c|C|c
12|m|M|m|M|m
13|u|U|u|U|u
14|n|N|n|N|n
15|p|P|p|P|p
16|f|F|f|F|f
17|a|A|a|A|a
18|z|ZO|z||z
19|y|YO|y||y
`
