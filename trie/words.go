package trie

import "iter"

// Find is the number of a word.
func (t *Trie) Find(s string) (int, bool) {
	at := 0
	for i := range len(s) {
		child, there := t.Child(at, s[i])
		if !there {
			return 0, false
		}
		at = child
	}
	return t.Word(at)
}

// Words tells all words by their bytes, and their numbers.
func (t *Trie) Words() iter.Seq2[string, int] {
	return func(yield func(string, int) bool) {
		if n, is := t.Word(0); is && !yield("", n) {
			return
		}
		t.tell(0, nil, yield)
	}
}

// tell tells the words that go on behind a node, whose text is handed in, and whether more are asked for.
func (t *Trie) tell(node int, text []byte, yield func(string, int) bool) bool {
	more := true
children:
	for c, child := range t.Children(node) {
		at, longer := node, text
		// What follows alone is gone along here, so that a long word leads no deeper than where words part.
		for next, follows, alone := child, c, true; alone; next, follows, alone = t.only(at) {
			at, longer = next, append(longer, follows)
			if n, is := t.Word(at); is && !yield(string(longer), n) {
				more = false
				break children
			}
		}
		if more = t.tell(at, longer, yield); !more {
			break children
		}
	}
	return more
}

// only is the one child of a node, and the byte that leads to it, if there is just one.
func (t *Trie) only(node int) (int, byte, bool) {
	if children := t.node(node).children; len(children) == 1 {
		for c, child := range children {
			return child, c, true
		}
	}
	return 0, 0, false
}
