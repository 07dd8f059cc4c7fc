package trie_test

import (
	"fmt"
	"math"
	"slices"
	"strings"
	"testing"

	"drachm/trie"
)

func is(t *testing.T, what string, got, want any) {
	t.Helper()
	if g, w := fmt.Sprint(got), fmt.Sprint(want); g != w {
		t.Errorf("%s: %s, want %s", what, g, w)
	}
}

// noNodes are numbers that no node of a trie has.
func noNodes(x *trie.Trie) []int {
	n := x.Len()
	return []int{math.MinInt, math.MinInt + 1, -n - 1, -n, -2, -1, n, n + 1, 2*n + 1, math.MaxInt32 + 1, math.MaxInt - 1, math.MaxInt}
}

// all are the words of a trie as it tells them.
func all(x *trie.Trie) string {
	said := []string{}
	for s, n := range x.Words() {
		said = append(said, fmt.Sprintf("%q %d", s, n))
	}
	return strings.Join(said, ", ")
}

// children are those of a node as the trie tells them.
func children(x *trie.Trie, node int) string {
	said := []string{}
	for c, child := range x.Children(node) {
		said = append(said, fmt.Sprintf("%d to %d", c, child))
	}
	return strings.Join(said, ", ")
}

// to is the node of a text, gone to from the empty one byte by byte; -1, if there is none.
func to(x *trie.Trie, s string) int {
	node := 0
	for i := range len(s) {
		child, there := x.Child(node, s[i])
		if !there {
			return -1
		}
		node = child
	}
	return node
}

// model is what words have in common, by plain maps.
type model struct {
	beginnings map[string]bool
	numbers    map[string]int
	words      []string // by their bytes
}

func modelOf(words ...string) model {
	m := model{beginnings: map[string]bool{"": true}, numbers: map[string]int{}}
	for i := len(words) - 1; i >= 0; i-- { // of those that are the same the first one stays
		m.numbers[words[i]] = i
		for n := range len(words[i]) {
			m.beginnings[words[i][:n+1]] = true
		}
	}
	for s := range m.numbers {
		m.words = append(m.words, s)
	}
	slices.Sort(m.words)
	return m
}

// told are all words as a trie is to tell them.
func (m model) told() string {
	said := []string{}
	for _, s := range m.words {
		said = append(said, fmt.Sprintf("%q %d", s, m.numbers[s]))
	}
	return strings.Join(said, ", ")
}

// held says what of a trie is not as these words have it; nothing, if all is.
func (m model) held(x *trie.Trie) string {
	if x.Len() != len(m.beginnings) {
		return fmt.Sprintf("Len: %d, want %d", x.Len(), len(m.beginnings))
	}
	if all(x) != m.told() {
		return fmt.Sprintf("Words: %s, want %s", all(x), m.told())
	}
	was := map[int]string{}
	for s := range m.beginnings {
		node := to(x, s)
		if node < 0 || node >= x.Len() {
			return fmt.Sprintf("%q is node %d of %d", s, node, x.Len())
		}
		if other, there := was[node]; there {
			return fmt.Sprintf("node %d is %q, and %q", node, s, other)
		}
		was[node] = s
		if wrong := m.heldAt(x, node, s); wrong != "" {
			return wrong
		}
	}
	return ""
}

// heldAt says it of what is told at one node, and of its text.
func (m model) heldAt(x *trie.Trie, node int, s string) string {
	want := []string{}
	for c := range 256 {
		child, there := x.Child(node, byte(c))
		if there != m.beginnings[s+string([]byte{byte(c)})] || !there && child != 0 {
			return fmt.Sprintf("Child of %q, %d: %d, %t", s, c, child, there)
		}
		if there {
			want = append(want, fmt.Sprintf("%d to %d", c, child))
		}
	}
	if got := children(x, node); got != strings.Join(want, ", ") {
		return fmt.Sprintf("Children of %q: %s, want %s", s, got, strings.Join(want, ", "))
	}
	number, isWord := m.numbers[s]
	if n, word := x.Word(node); word != isWord || n != number {
		return fmt.Sprintf("Word of %q: %d, %t", s, n, word)
	}
	if n, word := x.Find(s); word != isWord || n != number {
		return fmt.Sprintf("Find(%q): %d, %t", s, n, word)
	}
	return ""
}

// chance is a row of numbers that look drawn, the same ones at each run.
type chance uint64

func (c *chance) below(n int) int {
	*c = *c*6364136223846793005 + 1442695040888963407
	return int(uint64(*c>>33) % uint64(n))
}

// text is one of some bytes, of a length up to most.
func (c *chance) text(bytes string, most int) string {
	s := make([]byte, c.below(most+1))
	for i := range s {
		s[i] = bytes[c.below(len(bytes))]
	}
	return string(s)
}

// everyByte has all 256, rising.
func everyByte() string {
	s := make([]byte, 256)
	for c := range s {
		s[c] = byte(c)
	}
	return string(s)
}
