package trie

import (
	"iter"
	"slices"
)

// node is reached by the bytes on its way from the root, and has the indices of the texts that pass through it.
type node struct {
	indices
	kids map[byte]*node
}

// put leads a text down from here, and leaves its index wherever it passes.
func (n *node) put(text iter.Seq2[int, byte], i int) {
	n.add(i)
	for _, b := range text {
		n = n.kid(b)
		n.add(i)
	}
}

// find is the indices of what passes where s leads to from here. It ends where the way does, however long s is.
func (n *node) find(s iter.Seq2[int, byte]) []int {
	for _, b := range s {
		next, there := n.kids[b]
		if !there {
			return nil
		}
		n = next
	}
	return n.list()
}

// kid is the child by a byte, a new one if there is none yet.
func (n *node) kid(b byte) *node {
	if n.kids == nil {
		n.kids = map[byte]*node{}
	}
	if n.kids[b] == nil {
		n.kids[b] = &node{}
	}
	return n.kids[b]
}

// indices are in increasing order, each of them once.
type indices struct {
	all []int
}

// add puts an index behind the others, none of which is greater. It may be there already, since a text may pass through a node in several ways.
func (x *indices) add(i int) {
	if len(x.all) == 0 || x.all[len(x.all)-1] < i {
		x.all = append(x.all, i)
	}
}

// list is a copy, since it is handed out.
func (x *indices) list() []int { return slices.Clone(x.all) }
