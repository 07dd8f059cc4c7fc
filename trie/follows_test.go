package trie_test

import (
	"fmt"
	"slices"
	"testing"

	"drachm/trie"
)

// P17.4: all sets of words of two bytes up to two long: just they are found, and nodes are what their beginnings are.
func TestAllSmallTries(t *testing.T) {
	texts := []string{"", "a", "\xe9", "aa", "a\xe9", "\xe9a", "\xe9\xe9"}
	for set := range 1 << len(texts) {
		var words []string
		for i, s := range texts {
			if set>>i&1 == 1 {
				words = append(words, s)
			}
		}
		x, m := trie.Build(words...), modelOf(words...)
		if wrong := m.held(x); wrong != "" {
			t.Fatalf("%q: %s", words, wrong)
		}
		for _, s := range append(texts, "aaa", "b", "\xe9\xe9\xe9") {
			number, isWord := m.numbers[s]
			if n, there := x.Find(s); there != isWord || n != number {
				t.Fatalf("%q: Find(%q): %d, %t", words, s, n, there)
			}
		}
	}
}

// P17.1 to P17.4: words that are drawn, of few bytes and of all, some of them more than once, against a map of their beginnings.
func TestDrawnWords(t *testing.T) {
	t.Parallel()
	c := chance(1)
	for range 600 {
		bytes := []string{"ab", "mol/", "a\x00\xff", everyByte()}[c.below(4)]
		words := make([]string, c.below(40))
		for i := range words {
			words[i] = c.text(bytes, 7)
			if i > 0 && c.below(4) == 0 { // one that goes on from one ahead, or is it
				words[i] = words[c.below(i)] + c.text(bytes, 2)
			}
		}
		x, m := trie.Build(words...), modelOf(words...)
		if wrong := m.held(x); wrong != "" {
			t.Fatalf("%q: %s", words, wrong)
		}
		for range 20 {
			s := c.text(bytes, 8)
			number, isWord := m.numbers[s]
			if n, there := x.Find(s); there != isWord || n != number {
				t.Fatalf("%q: Find(%q): %d, %t", words, s, n, there)
			}
		}
	}
}

// P17.2: a node that has all bytes tells them in their order.
func TestEveryByte(t *testing.T) {
	var words []string
	for c := 255; c >= 0; c-- {
		words = append(words, string([]byte{byte(c)}), "m"+string([]byte{byte(c)}))
	}
	x := trie.Build(words...)
	if wrong := modelOf(words...).held(x); wrong != "" {
		t.Fatal(wrong)
	}
	is(t, "Len", x.Len(), 1+256+256)
}

// P17.4: the same texts are found in whatever order the words come.
func TestAnyOrder(t *testing.T) {
	words := []string{"m", "mol", "min", "", "mo", "\u00e9"}
	for _, order := range orders(len(words)) {
		var mixed []string
		for _, i := range order {
			mixed = append(mixed, words[i])
		}
		if wrong := modelOf(mixed...).held(trie.Build(mixed...)); wrong != "" {
			t.Fatalf("%q: %s", mixed, wrong)
		}
	}
}

// orders are all orders of the numbers below n.
func orders(n int) [][]int {
	if n == 0 {
		return [][]int{nil}
	}
	var all [][]int
	for _, order := range orders(n - 1) {
		for at := range n {
			all = append(all, slices.Insert(slices.Clone(order), at, n-1))
		}
	}
	return all
}

// P17.4: each node is come to from node 0 by one text: no two nodes have one child, and none has the empty text's.
func TestOneWayToEach(t *testing.T) {
	c := chance(4)
	var words []string
	for range 400 {
		words = append(words, c.text("mol\xc2\xb5", 6))
	}
	x := trie.Build(words...)
	from := map[int]int{}
	for node := range x.Len() {
		for _, child := range x.Children(node) {
			if other, was := from[child]; was || child <= 0 || child >= x.Len() {
				t.Fatalf("node %d is a child of %d, and of %d", child, node, other)
			}
			from[child] = node
		}
	}
	is(t, "nodes with a way to them", len(from)+1, x.Len())
}

// R3: words stay as they are, and what becomes of them is nothing to the trie.
func TestWordsHandedIn(t *testing.T) {
	words := []string{"mol", "m", "min", "spare", "spare"}
	want := `"m" 1, "min" 2, "mol" 0`
	x := trie.Build(words[:3]...)
	is(t, "handed in", words, "[mol m min spare spare]")
	is(t, "Words", all(x), want)
	clear(words)
	is(t, "Words of what was cleared", all(x), want)
	n, there := x.Find("mol")
	is(t, "Find of what was cleared", fmt.Sprint(n, there), "0 true")
}

// R4: the same calls have the same answers, and none changes a trie, though what is told lies in maps.
func TestSameAgain(t *testing.T) {
	words := []string{"mol", "m", "min", "s", "kg", "ksi", "k", "\u00b5m", "h", "ha", "har", "d", "dar"}
	x, m := trie.Build(words...), modelOf(words...)
	nodes := map[string]int{}
	for s := range m.beginnings {
		nodes[s] = to(x, s)
	}
	for range 100 {
		other := trie.Build(words...)
		for _, y := range []*trie.Trie{x, other} {
			if wrong := m.held(y); wrong != "" {
				t.Fatal(wrong)
			}
			for s, node := range nodes {
				if to(y, s) != node {
					t.Fatalf("%q is node %d, and was node %d", s, to(y, s), node)
				}
			}
		}
		x.Child(-1, 'm')
		x.Find("nothing")
		x.Word(x.Len())
	}
}
