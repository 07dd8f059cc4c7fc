package trie_test

import (
	"fmt"
	"slices"
	"testing"

	"drachm/trie"
)

// P17.1: how many nodes there are.
func TestLen(t *testing.T) {
	for _, x := range []struct {
		words []string
		nodes int
	}{
		{nil, 1},
		{[]string{}, 1},
		{[]string{""}, 1},
		{[]string{"", ""}, 1},
		{[]string{"m"}, 2},
		{[]string{"mol"}, 4},
		{[]string{"mol", "mol", "mol"}, 4},
		{[]string{"", "mol", ""}, 4},
		{[]string{"m", "mol", "min"}, 6}, // the document's own
		{[]string{"mol", "min"}, 6},
		{[]string{"mol", "m"}, 4}, // one is the beginning of the other one
		{[]string{"m", "mol"}, 4},
		{[]string{"mol", "lom"}, 7},
		{[]string{"mol", "ol", "l"}, 7}, // an end is no beginning
		{[]string{"aaa", "aa", "a"}, 4},
		{[]string{"\u00e9"}, 3},           // a node for each byte
		{[]string{"\u00e9", "\u00ea"}, 4}, // which have the first one in common
		{[]string{"\x00", "\x00\x00", "\xff"}, 4},
		{[]string{"m", "M"}, 3},
	} {
		is(t, fmt.Sprintf("Len of %q", x.words), trie.Build(x.words...).Len(), x.nodes)
	}
}

// P17.1: words are numbered from 0 on, and of the same ones the first number counts, though the others are counted along.
func TestFirstNumberCounts(t *testing.T) {
	x := trie.Build("mol", "m", "mol", "", "mm", "m", "", "mm", "l")
	for _, w := range []struct {
		word   string
		number int
	}{{"mol", 0}, {"m", 1}, {"", 3}, {"mm", 4}, {"l", 8}} {
		n, there := x.Find(w.word)
		is(t, fmt.Sprintf("Find(%q)", w.word), fmt.Sprint(n, there), fmt.Sprint(w.number, true))
		n, there = x.Word(to(x, w.word))
		is(t, fmt.Sprintf("Word of %q", w.word), fmt.Sprint(n, there), fmt.Sprint(w.number, true))
	}
	is(t, "Words", all(x), `"" 3, "l" 8, "m" 1, "mm" 4, "mol" 0`)
}

// P17.2: a byte on, from the empty text along a word to its end.
func TestChild(t *testing.T) {
	words := []string{"mol", "min", "m", "\x00\xff", "\u00e9", "\xff\x00"}
	x := trie.Build(words...)
	for _, w := range words {
		node := 0
		for i := range len(w) {
			child, there := x.Child(node, w[i])
			if !there || child <= 0 || child >= x.Len() {
				t.Fatalf("Child at %q behind %q: %d, %t", w[i], w[:i], child, there)
			}
			node = child
		}
	}
	for _, none := range []struct {
		behind string
		c      byte
	}{{"", 'l'}, {"", 'M'}, {"", 1}, {"", 0xa9}, {"", 0xe9}, {"m", 'm'}, {"m", 0}, {"m", 255}, {"mo", 'n'}, {"mol", 'l'}, {"\x00", 0}, {"\xff", 255}, {"\xc3", 0xc3}, {"\u00e9", 0}} {
		child, there := x.Child(to(x, none.behind), none.c)
		is(t, fmt.Sprintf("Child at %d behind %q", none.c, none.behind), fmt.Sprint(child, there), "0 false")
	}
}

// P17.2: bytes lead on, not letters.
func TestBytesNotLetters(t *testing.T) {
	x := trie.Build("\u00e9", "\u00ea")
	first, there := x.Child(0, 0xc3)
	is(t, "the first byte", there, true)
	is(t, "the second bytes", children(x, first), fmt.Sprintf("169 to %d, 170 to %d", to(x, "\u00e9"), to(x, "\u00ea")))
	_, there = x.Find("\xc3")
	is(t, "half a letter", there, false)
	_, there = x.Find("\u00e9")
	is(t, "the letter", there, true)
}

// P17.2: the bytes that follow, rising, though the words come in another order.
func TestChildren(t *testing.T) {
	x := trie.Build("z", "mol", "\xff", "a", "\x00", "ma", "\x80", "Z", "m\x7f")
	for _, w := range []struct {
		text  string
		bytes []byte
	}{
		{"", []byte{0, 'Z', 'a', 'm', 'z', 0x80, 0xff}},
		{"m", []byte{'a', 'o', 0x7f}},
		{"mo", []byte{'l'}},
		{"mol", nil},
		{"\xff", nil},
	} {
		var got []byte
		for c, child := range x.Children(to(x, w.text)) {
			got = append(got, c)
			is(t, fmt.Sprintf("child of %q by %d", w.text, c), child, to(x, w.text+string([]byte{c})))
		}
		is(t, fmt.Sprintf("Children of %q", w.text), got, w.bytes)
	}
}

// P17.2, R1: children may be left off behind any of them, and gone over again.
func TestChildrenLeftOff(t *testing.T) {
	x := trie.Build("d", "b", "c", "a", "e")
	seq := x.Children(0)
	for many := range 6 {
		said := ""
		if many > 0 {
			for c := range seq {
				if said += string(rune(c)); len(said) == many {
					break
				}
			}
		}
		is(t, fmt.Sprintf("%d children", many), said, "abcde"[:many])
	}
	for c := range seq {
		for d := range seq {
			if c == d {
				break
			}
		}
	}
	is(t, "again", len(slices.Collect(firsts(seq))), 5)
}

func firsts(seq func(func(byte, int) bool)) func(func(byte) bool) {
	return func(yield func(byte) bool) {
		seq(func(c byte, _ int) bool { return yield(c) })
	}
}

// P17.2: which word a node's text is.
func TestWord(t *testing.T) {
	x := trie.Build("mol", "m", "min", "", "mol")
	for _, w := range []struct{ text, want string }{
		{"mol", "0 true"}, {"m", "1 true"}, {"min", "2 true"}, {"", "3 true"},
		{"mo", "0 false"}, {"mi", "0 false"},
	} {
		n, there := x.Word(to(x, w.text))
		is(t, fmt.Sprintf("Word of %q", w.text), fmt.Sprint(n, there), w.want)
	}
	n, there := trie.Build("m").Word(0)
	is(t, "the empty text, which is no word", fmt.Sprint(n, there), "0 false")
}

// P17.2: where there is no such node, nothing is told.
func TestNoNode(t *testing.T) {
	for _, words := range [][]string{nil, {""}, {"m"}, {"mol", "m", "", "min"}} {
		x := trie.Build(words...)
		for _, node := range noNodes(x) {
			for _, c := range []byte{0, 'm', 'o', 127, 128, 255} {
				child, there := x.Child(node, c)
				is(t, fmt.Sprintf("Child(%d, %d) of %q", node, c, words), fmt.Sprint(child, there), "0 false")
			}
			is(t, fmt.Sprintf("Children(%d) of %q", node, words), children(x, node), "")
			n, there := x.Word(node)
			is(t, fmt.Sprintf("Word(%d) of %q", node, words), fmt.Sprint(n, there), "0 false")
		}
	}
}

// A nil trie tells nothing, nor does one that Build did not make.
func TestNilTrie(t *testing.T) {
	var none *trie.Trie
	for name, x := range map[string]*trie.Trie{"nil": none, "not built": new(trie.Trie)} {
		for _, node := range append(noNodes(x), 0, 1) {
			for c := range 256 {
				child, there := x.Child(node, byte(c))
				is(t, fmt.Sprintf("%s: Child(%d, %d)", name, node, c), fmt.Sprint(child, there), "0 false")
			}
			is(t, fmt.Sprintf("%s: Children(%d) there", name, node), x.Children(node) != nil, true)
			is(t, fmt.Sprintf("%s: Children(%d)", name, node), children(x, node), "")
			n, there := x.Word(node)
			is(t, fmt.Sprintf("%s: Word(%d)", name, node), fmt.Sprint(n, there), "0 false")
		}
		for _, s := range []string{"", "m", "mol", "\x00"} {
			n, there := x.Find(s)
			is(t, fmt.Sprintf("%s: Find(%q)", name, s), fmt.Sprint(n, there), "0 false")
		}
		is(t, name+": Words there", x.Words() != nil, true)
		is(t, name+": Words", all(x), "")
	}
	is(t, "Len of nil", none.Len(), 0)
	is(t, "Len of one that was not built", new(trie.Trie).Len(), 1) // it has no words, and so the empty text alone
}
