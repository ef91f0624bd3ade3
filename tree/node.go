package tree

import (
	"cmp"
	"slices"
	"strings"

	"roundelay/api"
)

// How many entries a node has; the topmost one may have fewer.
const (
	least = api.Fan
	most  = 2 * api.Fan
)

// node is entries, in order, and the nodes right below it, one more than it has entries: what stands below the one at a place lies ahead of the entry at that place. A leaf has none.
type node struct {
	entries []api.Entry
	below   []*node
}

func compare(a, b api.Entry) int {
	return cmp.Or(strings.Compare(a.Key, b.Key), cmp.Compare(a.ID, b.ID))
}

// place is where an entry stands among those of this node, and true; where it would stand, and false, if it is not one of them.
func (n *node) place(e api.Entry) (int, bool) {
	return slices.BinarySearchFunc(n.entries, e, compare)
}

func (n *node) leaf() bool { return len(n.below) == 0 }

func (n *node) has(e api.Entry) bool {
	at, found := n.place(e)
	return found || !n.leaf() && n.below[at].has(e)
}

// first is for a tree with entries: each leaf of such a one has some.
func (n *node) first() api.Entry {
	if n.leaf() {
		return n.entries[0]
	}
	return n.below[0].first()
}

// last is for a tree with entries, as first is.
func (n *node) last() api.Entry {
	at := len(n.entries)
	if n.leaf() {
		return n.entries[at-1]
	}
	return n.below[at].last()
}

func (n *node) after(e api.Entry) (api.Entry, bool) {
	at, found := n.place(e)
	if found {
		at++
	}
	if !n.leaf() {
		if next, ok := n.below[at].after(e); ok {
			return next, true
		}
	}
	if at == len(n.entries) {
		return api.Entry{}, false
	}
	return n.entries[at], true
}

func (n *node) before(e api.Entry) (api.Entry, bool) {
	at, _ := n.place(e)
	if !n.leaf() {
		if next, ok := n.below[at].before(e); ok {
			return next, true
		}
	}
	if at == 0 {
		return api.Entry{}, false
	}
	return n.entries[at-1], true
}

// tell puts this node, which is so deep, and all below it behind out.
func (n *node) tell(out []api.Node, depth int) []api.Node {
	out = append(out, api.Node{Depth: depth, Entries: len(n.entries), Leaf: n.leaf()})
	for _, b := range n.below {
		out = b.tell(out, depth+1)
	}
	return out
}

// add may leave this node with one entry too many, which is for the one above it to mend.
func (n *node) add(e api.Entry) bool {
	at, found := n.place(e)
	if found {
		return false
	}
	if n.leaf() {
		n.entries = slices.Insert(n.entries, at, e)
		return true
	}
	if !n.below[at].add(e) {
		return false
	}
	n.split(at)
	return true
}

// split cuts the node below at that place in two, if it has too many entries, and takes up the one in the middle.
func (n *node) split(at int) {
	left := n.below[at]
	if len(left.entries) <= most {
		return
	}
	right := &node{entries: cut(&left.entries, least+1)}
	if !left.leaf() {
		right.below = cut(&left.below, least+1)
	}
	n.entries = slices.Insert(n.entries, at, take(&left.entries, least))
	n.below = slices.Insert(n.below, at+1, right)
}

// del may leave this node with one entry too few, which is for the one above it to mend.
func (n *node) del(e api.Entry) bool {
	at, found := n.place(e)
	if n.leaf() {
		if found {
			take(&n.entries, at)
		}
		return found
	}
	if found {
		// An entry that parts two nodes can't go without another one in its stead.
		n.entries[at] = n.below[at].takeLast()
	} else if !n.below[at].del(e) {
		return false
	}
	n.mend(at)
	return true
}

// takeLast takes away the last entry of this node and all below it, and may leave it with one too few, as del does.
func (n *node) takeLast() api.Entry {
	at := len(n.entries)
	if n.leaf() {
		return take(&n.entries, at-1)
	}
	e := n.below[at].takeLast()
	n.mend(at)
	return e
}

// mend gives the node below at that place another entry, if it has too few: from a neighbour that can spare one, else by joining it with a neighbour.
func (n *node) mend(at int) {
	switch {
	case len(n.below[at].entries) >= least:
	case at > 0 && n.spares(at-1):
		n.turnRight(at - 1)
	case at < len(n.entries) && n.spares(at+1):
		n.turnLeft(at)
	case at > 0:
		n.join(at - 1)
	default:
		n.join(at)
	}
}

func (n *node) spares(at int) bool { return len(n.below[at].entries) > least }

// turnRight moves the entry at that place down to the right, and the one ahead of it up in its stead.
func (n *node) turnRight(at int) {
	left, right := n.below[at], n.below[at+1]
	right.entries = slices.Insert(right.entries, 0, n.entries[at])
	n.entries[at] = take(&left.entries, len(left.entries)-1)
	if !left.leaf() {
		right.below = slices.Insert(right.below, 0, take(&left.below, len(left.below)-1))
	}
}

// turnLeft moves the entry at that place down to the left, and the one behind it up in its stead.
func (n *node) turnLeft(at int) {
	left, right := n.below[at], n.below[at+1]
	left.entries = append(left.entries, n.entries[at])
	n.entries[at] = take(&right.entries, 0)
	if !right.leaf() {
		left.below = append(left.below, take(&right.below, 0))
	}
}

// join makes one node of the two below left and right of the entry at that place, and of that entry.
func (n *node) join(at int) {
	left := n.below[at]
	right := take(&n.below, at+1)
	left.entries = append(left.entries, take(&n.entries, at))
	left.entries = append(left.entries, right.entries...)
	left.below = append(left.below, right.below...)
}

// take takes the thing at that place out of a list.
func take[T any](l *[]T, at int) T {
	x := (*l)[at]
	*l = slices.Delete(*l, at, at+1)
	return x
}

// cut takes what stands from that place on out of a list. It is a copy, so that the two lists do not grow into one another.
func cut[T any](l *[]T, from int) []T {
	out := slices.Clone((*l)[from:])
	*l = slices.Delete(*l, from, len(*l))
	return out
}
