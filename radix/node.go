package radix

import (
	"cmp"
	"slices"

	"nearhand/api"
)

// node is a text at which keys end, or part.
type node struct {
	text string // whole, from the root on: so nodes go without others being written anew
	// marked: it is a key, and n is its number.
	marked bool
	n      int64
	below  []*node // the texts that go on, in order of their next byte, each byte once
}

// mark: the key and its number.
func (n *node) mark() api.Mark { return api.Mark{Key: n.text, N: n.n} }

// idle: is there nothing for which the node must be?
func (n *node) idle() bool { return !n.marked && len(n.below) < 2 }

// find: where among those below the one stands, or would stand, that goes on
// with that byte, and whether it is there.
func (n *node) find(b byte) (int, bool) {
	return slices.BinarySearchFunc(n.below, b, func(next *node, b byte) int {
		return cmp.Compare(next.text[len(n.text)], b)
	})
}

// common: how many bytes a key has in common with a node below, of which both
// have those of n.
func (n *node) common(next *node, key string) int {
	i, end := len(n.text), min(len(next.text), len(key))
	for i < end && next.text[i] == key[i] {
		i++
	}
	return i
}

// next: the node below that is, as far as both go, as the key; nil, if there is
// none, or the key doesn't go on.
func (n *node) next(key string) *node {
	from := len(n.text)
	if from >= len(key) {
		return nil
	}
	i, there := n.find(key[from])
	if !there {
		return nil
	}
	next := n.below[i]
	to := min(len(next.text), len(key))
	if next.text[from:to] != key[from:to] {
		return nil
	}
	return next
}

// skip: a node below goes, and what is below it stands in its place.
func (n *node) skip(gone *node) {
	i, _ := n.find(gone.text[len(n.text)])
	n.below = slices.Replace(n.below, i, i+1, gone.below...)
}
