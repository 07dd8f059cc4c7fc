package eval_test

// worths is what each atom is worth, by its place, reckoned from the document's table by hand; ahead of it the atom's code in Sensitive.
const worths = `
m: 1 m1
s: 1 s1
g: 1 g1
rad: 1 r1
K: 1 k1
C: 1 c1
cd: 1 d1
%: 1e-2
mol: 602214076e15
sr: 1 r2
Hz: 1 s-1
N: 1e3 m1s-2g1
Pa: 1e3 m-1s-2g1
J: 1e3 m2s-2g1
W: 1e3 m2s-3g1
A: 1 s-1c1
V: 1e3 m2s-2g1c-1
F: 1e-3 m-2s2g-1c2
Ohm: 1e3 m2s-1g1c-2
S: 1e-3 m-2s1g-1c2
Wb: 1e3 m2s-1g1c-1
Cel: 1 k1 #1
T: 1e3 s-1g1c-1
H: 1e3 m2g1c-2
lm: 1 r2d1
lx: 1 m-2r2d1
Bq: 1 s-1
Gy: 1 m2s-2
Sv: 1 m2s-2
l: 1e-3 m3
ar: 1e2 m2
min: 6e1 s1
h: 36e2 s1
d: 864e2 s1
a: 315576e2 s1
t: 1e6 g1
bar: 1e8 m-1s-2g1
[in_i]: 254e-4 m1
[lb_av]: 45359237e-5 g1
[pH]: 602214076e18 m-3 #2
B: 1 #3
[iU]: 1
eq: 602214076e15
osm: 602214076e15
kat: 602214076e15 s-1
u: 16605390666e-34 g1
eV: 1602176634e-25 m2s-2g1
[dr_av]: 17718451953125e-13 g1
`

// tens are the powers of ten of the document's prefixes, by their places.
var tens = [prefixCount]int{24, 21, 18, 15, 12, 9, 6, 3, 2, 1, -1, -2, -3, -6, -9, -12, -15, -18, -21, -24}

// notMetric are the places of the atoms ahead of which no prefix stands.
var notMetric = []int{7, 31, 32, 33, 34, 37, 38, 39, 47}
