package btree

import "cmp"

// These walks hold the lists that a node has when they come to it, so that a loop in which the tree is changed ends: a node has only so many children then, and stays as far above the leaves as it is. Such a change may leave holes in the lists: a child that isn't there.

// all yields the items at or below a node; false, once the loop has ended.
func (n *node[K, V]) all(yield func(K, V) bool) bool {
	if n == nil {
		return true
	}
	items, children := n.items, n.children
	if len(children) > 0 && !children[0].all(yield) {
		return false
	}
	return behind(items, children, yield)
}

// from yields those whose keys aren't below key; false, once the loop has ended.
func (n *node[K, V]) from(key K, yield func(K, V) bool) bool {
	at, found := find(n.items, key)
	items, children := n.items[at:], n.children
	if len(children) > 0 {
		children = children[at:]
		if !found && !children[0].from(key, yield) {
			return false
		}
	}
	return behind(items, children, yield)
}

// behind yields items, and behind each what is below the child there; false, once the loop has ended.
func behind[K cmp.Ordered, V any](items []item[K, V], children []*node[K, V], yield func(K, V) bool) bool {
	for i, x := range items {
		if !yield(x.key, x.value) {
			return false
		}
		if len(children) > 0 && !children[i+1].all(yield) {
			return false
		}
	}
	return true
}
