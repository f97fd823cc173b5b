package tree

import "slices"

// Each node except the root has from least to most keys or children. Two neighbours that are joined since one of them
// has too few have, if they are too many for one node, enough for two.
const (
	least = 4
	most  = 8
)

// node is a leaf or an inner node. Trees share nodes, so none is changed once it is made.
type node[V any] struct {
	keys   []string   // of an inner node, the least key of each child
	values []V        // of a leaf, one for each key
	kids   []*node[V] // of an inner node, one for each key
	size   int        // the keys of all leaves of this node
}

func leaf[V any](keys []string, values []V) *node[V] {
	return &node[V]{keys: keys, values: values, size: len(keys)}
}

func inner[V any](kids []*node[V]) *node[V] {
	n := &node[V]{kids: kids, keys: make([]string, len(kids))}
	for i, kid := range kids {
		n.keys[i] = kid.keys[0]
		n.size += kid.size
	}
	return n
}

// above returns the root above one node, which is that node, or above several.
func above[V any](l []*node[V]) *node[V] {
	if len(l) == 1 {
		return l[0]
	}
	return inner(l)
}

func (n *node[V]) hasKids() bool {
	return len(n.kids) > 0
}

// find returns the number of keys of n that are less than key, and whether the next one is key.
func (n *node[V]) find(key string) (int, bool) {
	return slices.BinarySearch(n.keys, key)
}

// child returns which child of n has key, if any has: the last one that does not begin above key, or the first one.
func (n *node[V]) child(key string) int {
	i, ok := n.find(key)
	if ok {
		return i
	}
	return max(i-1, 0)
}

// with returns the one or two nodes that have what n has, and v as the value of key.
func (n *node[V]) with(key string, v V) []*node[V] {
	if n.hasKids() {
		i := n.child(key)
		return inner(spliced(n.kids, i, i+1, n.kids[i].with(key, v)...)).halves()
	}
	i, ok := n.find(key)
	end := i
	if ok {
		end++
	}
	return leaf(spliced(n.keys, i, end, key), spliced(n.values, i, end, v)).halves()
}

// without returns a node that has what n has, except key, which is present. It may have one key or child too few.
func (n *node[V]) without(key string) *node[V] {
	if n.hasKids() {
		i := n.child(key)
		return n.replace(i, n.kids[i].without(key))
	}
	i, _ := n.find(key)
	return leaf(spliced(n.keys, i, i+1), spliced(n.values, i, i+1))
}

// replace returns n with kid in the place of the child i. A kid that has too few is joined with a neighbour.
func (n *node[V]) replace(i int, kid *node[V]) *node[V] {
	switch {
	case len(kid.keys) >= least:
		return inner(spliced(n.kids, i, i+1, kid))
	case i > 0:
		return inner(spliced(n.kids, i-1, i+1, joined(n.kids[i-1], kid).halves()...))
	default:
		return inner(spliced(n.kids, i, i+2, joined(kid, n.kids[i+1]).halves()...))
	}
}

// joined returns what two neighbours have as one node, which may have too many.
func joined[V any](a, b *node[V]) *node[V] {
	end := len(a.keys)
	if a.hasKids() {
		return inner(spliced(a.kids, end, end, b.kids...))
	}
	return leaf(spliced(a.keys, end, end, b.keys...), spliced(a.values, end, end, b.values...))
}

// halves returns n alone, or two nodes with what it has if that is too many for one.
func (n *node[V]) halves() []*node[V] {
	end := len(n.keys)
	if end <= most {
		return []*node[V]{n}
	}
	half := end / 2
	if n.hasKids() {
		return []*node[V]{inner(spliced(n.kids, half, end)), inner(spliced(n.kids, 0, half))}
	}
	return []*node[V]{
		leaf(spliced(n.keys, half, end), spliced(n.values, half, end)),
		leaf(spliced(n.keys, 0, half), spliced(n.values, 0, half)),
	}
}

// spliced returns l with e in the place of l[from:to], in memory of its own, so that a removed value is not kept.
// It has no spare capacity, so that an append to what nodes share can never write into it.
func spliced[E any](l []E, from, to int, e ...E) []E {
	s := slices.Concat(l[:from], e, l[to:])
	return s[:len(s):len(s)]
}

// from yields the keys that are not less than key, ascending, and reports whether the loop goes on.
func (n *node[V]) from(key string, yield func(string, V) bool) bool {
	if n.hasKids() {
		for _, kid := range n.kids[n.child(key):] {
			if !kid.from(key, yield) {
				return false
			}
		}
		return true
	}
	first, _ := n.find(key)
	for i := first; i < len(n.keys); i++ {
		if !yield(n.keys[i], n.values[i]) {
			return false
		}
	}
	return true
}

// back yields the keys that are not greater than key, descending, and reports whether the loop goes on.
func (n *node[V]) back(key string, yield func(string, V) bool) bool {
	if n.hasKids() {
		for i := n.child(key); i >= 0; i-- {
			if !n.kids[i].back(key, yield) {
				return false
			}
		}
		return true
	}
	last, ok := n.find(key)
	if !ok {
		last--
	}
	for i := last; i >= 0; i-- {
		if !yield(n.keys[i], n.values[i]) {
			return false
		}
	}
	return true
}
