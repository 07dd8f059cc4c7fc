package codes_test

// atomRows are the codes of the document's atoms: place, codes by notations.
const atomRows = `
0|m|M|m|M|m
1|s|S|s|S|s
2|g|G|g|G|g
3|rad|RAD|rad|RAD|rad
4|K|K|K|K|K
5|C|C|C|C|C
6|cd|CD|cd|CD|cd
7|%|%|%||%
8|mol|MOL|mol|MOL|mol
9|sr|SR|sr|SR|sr
10|Hz|HZ|Hz|HZ|Hz
11|N|N|N|N|N
12|Pa|PAL|Pa|PA|Pa
13|J|J|J|J|J
14|W|W|W|W|W
15|A|A|A|A|A
16|V|V|V|V|V
17|F|F|F|F|F
18|Ohm|OHM|Ohm|OHM|ohm
19|S|SIE|S|SIE|S
20|Wb|WB|Wb|WB|Wb
21|Cel|CEL|[oC]|CEL|
22|T|T|T|T|T
23|H|H|H|H|H
24|lm|LM|lm|LM|lm
25|lx|LX|lx|LX|lx
26|Bq|BQ|Bq|BQ|Bq
27|Gy|GY|Gy|GY|Gy
28|Sv|SV|Sv|SV|Sv
29|l|L|L|L|l
30|ar|AR|a|ARE|a
31|min|MIN|min|MIN|min
32|h|HR|h|HR|hr
33|d|D|d|D|d
34|a|ANN|yr|ANN|yr
35|t|TNE|t|TNE|t
36|bar|BAR|bar|BAR|bar
37|[in_i]|[IN_I]|in|IN|in
38|[lb_av]|[LB_AV]|lb|LB|lb
39|[pH]|[PH]|pH||
40|B|B|B||
41|[iU]|[IU]|IU||IU
42|eq|EQ|eq|EQ|eq
43|osm|OSM|osm|OSM|osm
44|kat|KAT|kat|KAT|kat
45|u|AMU|u|U|u
46|eV|EV|eV|EV|eV
47|[dr_av]|[DR_AV]|dr||dr
`

// prefixRows are those of its prefixes.
const prefixRows = `
0|Y|YA|Y||Y
1|Z|ZA|Z||Z
2|E|EX|E|E|E
3|P|PT|P|PE|P
4|T|TR|T|T|T
5|G|GA|G|G|G
6|M|MA|M|MA|M
7|k|K|k|K|k
8|h|H|h|H|h
9|da|DA|da|DA|da
10|d|D|d|D|d
11|c|C|c|C|c
12|m|M|m|M|m
13|u|U|u|U|u
14|n|N|n|N|n
15|p|P|p|P|p
16|f|F|f|F|f
17|a|A|a|A|a
18|z|ZO|z||z
19|y|YO|y||y
`
