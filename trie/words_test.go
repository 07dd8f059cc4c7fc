package trie_test

import (
	"fmt"
	"iter"
	"runtime/debug"
	"strings"
	"testing"

	"drachm/trie"
)

// P17.3: the words, and no others.
func TestFind(t *testing.T) {
	x := trie.Build("mol", "m", "", "min", "m\x00", "\u00e9")
	for _, w := range []struct{ text, want string }{
		{"mol", "0 true"}, {"m", "1 true"}, {"", "2 true"}, {"min", "3 true"}, {"m\x00", "4 true"}, {"\u00e9", "5 true"},
		{"mo", "0 false"}, {"mi", "0 false"}, // beginnings
		{"mola", "0 false"}, {"molm", "0 false"}, {"m\x00\x00", "0 false"}, {"\u00e9e", "0 false"}, // what goes on
		{"ol", "0 false"}, {"l", "0 false"}, {"M", "0 false"}, {"MOL", "0 false"}, {" m", "0 false"}, {"\x00", "0 false"}, {"\xc3", "0 false"}, {"\xa9", "0 false"},
	} {
		n, there := x.Find(w.text)
		is(t, fmt.Sprintf("Find(%q)", w.text), fmt.Sprint(n, there), w.want)
	}
	n, there := trie.Build("m", "mol").Find("")
	is(t, "the empty text, which is no word", fmt.Sprint(n, there), "0 false")
	n, there = trie.Build().Find("")
	is(t, "the empty text of no words", fmt.Sprint(n, there), "0 false")
}

// P17.3: all words by their bytes.
func TestWords(t *testing.T) {
	for _, x := range []struct {
		words []string
		want  string
	}{
		{nil, ""},
		{[]string{""}, `"" 0`},
		{[]string{"m"}, `"m" 0`},
		{[]string{"m", "mol", "min"}, `"m" 0, "min" 2, "mol" 1`}, // the document's own
		{[]string{"mol", "mo", "m", ""}, `"" 3, "m" 2, "mo" 1, "mol" 0`},
		{[]string{"", "m", "mo", "mol"}, `"" 0, "m" 1, "mo" 2, "mol" 3`},
		{[]string{"b", "a", "b", "a"}, `"a" 1, "b" 0`},
		{[]string{"a", "ab", "b", "aa", "abc"}, `"a" 0, "aa" 3, "ab" 1, "abc" 4, "b" 2`},
		{[]string{"a", "B", "b", "A"}, `"A" 3, "B" 1, "a" 0, "b" 2`},
		{[]string{"\xff", "\x00", "z", "\x80", "\x7f"}, `"\x00" 1, "z" 2, "\x7f" 4, "\x80" 3, "\xff" 0`},
		{[]string{"\u00e9", "z", "\u20ac", "e"}, "\"e\" 3, \"z\" 1, \"\u00e9\" 0, \"\u20ac\" 2"},
		{[]string{"a\x00", "a", "a\x00\x00"}, `"a" 1, "a\x00" 0, "a\x00\x00" 2`},
		{[]string{"abcde", "abcdf", "abx", "abcdefgh"}, `"abcde" 0, "abcdefgh" 3, "abcdf" 1, "abx" 2`},
	} {
		is(t, fmt.Sprintf("Words of %q", x.words), all(trie.Build(x.words...)), x.want)
	}
}

// P17.3, R1: words may be left off behind any of them, and gone over again.
func TestWordsLeftOff(t *testing.T) {
	want := []string{"", "a", "ab", "abcd", "abce", "abcef", "b", "ba", "c", "cdefg"}
	x := trie.Build("cdefg", "b", "abcd", "", "ba", "abcef", "c", "ab", "abce", "a")
	seq := x.Words()
	for many := 1; many <= len(want); many++ {
		for range 3 {
			var got []string
			for s, n := range seq {
				number, _ := x.Find(s)
				is(t, fmt.Sprintf("the number of %q", s), n, number)
				if got = append(got, s); len(got) == many {
					break
				}
			}
			is(t, fmt.Sprintf("%d words", many), fmt.Sprintf("%q", got), fmt.Sprintf("%q", want[:many]))
		}
	}
}

// R1: words that are gone through within words do not get into one another's way.
func TestWordsWithinWords(t *testing.T) {
	x := trie.Build("ab", "ac", "abc", "b")
	seq := x.Words()
	said := []string{}
	for a := range seq {
		for b := range seq {
			said = append(said, a+"+"+b)
		}
	}
	is(t, "within", strings.Join(said, " "), "ab+ab ab+abc ab+ac ab+b abc+ab abc+abc abc+ac abc+b ac+ab ac+abc ac+ac ac+b b+ab b+abc b+ac b+b")
	one, leaveOne := iter.Pull2(seq)
	other, leaveOther := iter.Pull2(seq)
	defer leaveOne()
	defer leaveOther()
	one()
	for _, want := range []string{"abc ab", "ac abc", "b ac", " b"} {
		a, _, _ := one()
		b, _, _ := other()
		is(t, "side by side", a+" "+b, want)
	}
}

// P17.3: words told stay as they are while others are told.
func TestWordsAreKept(t *testing.T) {
	c := chance(17)
	var words []string
	for range 300 {
		words = append(words, c.text("ab", 9))
	}
	x := trie.Build(words...)
	var got []string
	for s := range x.Words() {
		got = append(got, s)
	}
	is(t, "kept", fmt.Sprintf("%q", got), fmt.Sprintf("%q", modelOf(words...).words))
}

// R5: words of any length are found, and told, and lead no deeper than they part.
func TestLongWords(t *testing.T) {
	t.Parallel()
	defer debug.SetMaxStack(debug.SetMaxStack(1 << 26)) // too little for a call at each byte
	const length = 1 << 20
	long := strings.Repeat("mol/", length/4)
	other := long[:length-1] + "x"
	x := trie.Build(other, long, long[:length/2])
	is(t, "Len", x.Len(), length+2)
	var got []string
	var numbers []int
	for s, n := range x.Words() {
		got, numbers = append(got, s), append(numbers, n)
	}
	is(t, "numbers", numbers, "[2 1 0]")
	for i, want := range []string{long[:length/2], long, other} {
		if len(got) != 3 || got[i] != want {
			t.Fatalf("word %d of %d is another one", i, len(got))
		}
	}
	for _, w := range []struct{ text, want string }{{long, "1 true"}, {other, "0 true"}, {long[:length-1], "0 false"}, {long + "m", "0 false"}} {
		n, there := x.Find(w.text)
		is(t, fmt.Sprintf("Find of %d bytes", len(w.text)), fmt.Sprint(n, there), w.want)
	}
}

// R5: words that part at every byte.
func TestDeepWords(t *testing.T) {
	t.Parallel()
	const deep = 4000
	row := strings.Repeat("a", deep) + "b"
	var words []string
	for i := range deep + 1 {
		words = append(words, row[i:])
	}
	x := trie.Build(words...)
	is(t, "Len", x.Len(), 2*deep+2)
	want := 0 // the longest one is the first of them, as an a goes ahead of the b
	for s, n := range x.Words() {
		if n != want || s != words[n] {
			t.Fatalf("word %d has the number %d, and %d bytes", want, n, len(s))
		}
		want++
	}
	is(t, "words", want, deep+1)
}
