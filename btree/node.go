package btree

import (
	"cmp"
	"slices"
)

// How many items a node has, but that the root may have fewer. Two nodes of which one lacks an item make up, with the item between them, one that is full.
const (
	least = 8
	most  = 2 * least
)

// item is a key with its value.
type item[K cmp.Ordered, V any] struct {
	key   K
	value V
}

// node has items by rising keys, and, unless it is a leaf, a child ahead of each item and one behind the last. All leaves are equally deep.
type node[K cmp.Ordered, V any] struct {
	items    []item[K, V]
	children []*node[K, V]
}

func (n *node[K, V]) leaf() bool {
	return len(n.children) == 0
}

// find gives the place of the first item whose key isn't below key, and whether it is that key's.
func find[K cmp.Ordered, V any](items []item[K, V], key K) (int, bool) {
	return slices.BinarySearchFunc(items, key, func(i item[K, V], key K) int {
		return cmp.Compare(i.key, key)
	})
}

// put may leave the node with an item too many: who called parts it then.
func (n *node[K, V]) put(key K, value V) (old V, had bool) {
	at, found := find(n.items, key)
	if found {
		old = n.items[at].value
		n.items[at].value = value
		return old, true
	}
	if n.leaf() {
		n.items = slices.Insert(n.items, at, item[K, V]{key, value})
		return old, false
	}
	old, had = n.children[at].put(key, value)
	if len(n.children[at].items) > most {
		n.part(at)
	}
	return old, had
}

// part makes two children of one that is too full; its middle item comes between them.
func (n *node[K, V]) part(at int) {
	left := n.children[at]
	middle := left.items[least]
	right := &node[K, V]{}
	left.items, right.items = cut(left.items, least, least+1)
	if !left.leaf() {
		left.children, right.children = cut(left.children, least+1, least+1)
	}
	n.items = slices.Insert(n.items, at, middle)
	n.children = slices.Insert(n.children, at+1, right)
}

// cut gives what of a list stands ahead of the one place, and what stands at the other place and behind it. Neither has spare room: what one is given later isn't seen in the other, and nothing that was taken out of them is kept.
func cut[T any](list []T, end, begin int) (ahead, behind []T) {
	behind = make([]T, len(list)-begin)
	copy(behind, list[begin:])
	clear(list[end:])
	return list[:end:end], behind
}

// take may leave the node with an item too few: who called fills it then.
func (n *node[K, V]) take(key K) (value V, had bool) {
	at, found := find(n.items, key)
	if n.leaf() {
		if found {
			value = n.items[at].value
			n.items = slices.Delete(n.items, at, at+1)
		}
		return value, found
	}
	if found {
		value, had = n.items[at].value, true
		n.items[at] = n.children[at].takeLast()
	} else {
		value, had = n.children[at].take(key)
	}
	n.fill(at)
	return value, had
}

// takeLast takes out the greatest item at or below a node.
func (n *node[K, V]) takeLast() item[K, V] {
	if n.leaf() {
		end := len(n.items) - 1
		last := n.items[end]
		n.items = slices.Delete(n.items, end, end+1)
		return last
	}
	end := len(n.children) - 1
	last := n.children[end].takeLast()
	n.fill(end)
	return last
}

// fill gives a child that lacks an item one from beside it, or joins the two.
func (n *node[K, V]) fill(at int) {
	if len(n.children[at].items) >= least {
		return
	}
	switch {
	case at > 0 && len(n.children[at-1].items) > least:
		n.shiftRight(at - 1)
	case at < len(n.items) && len(n.children[at+1].items) > least:
		n.shiftLeft(at)
	case at > 0:
		n.join(at - 1)
	default:
		n.join(at)
	}
}

// shiftRight lets the last item ahead of the item at a place come there, and that one behind it.
func (n *node[K, V]) shiftRight(at int) {
	left, right := n.children[at], n.children[at+1]
	end := len(left.items) - 1
	right.items = slices.Insert(right.items, 0, n.items[at])
	n.items[at] = left.items[end]
	left.items = slices.Delete(left.items, end, end+1)
	if !left.leaf() {
		right.children = slices.Insert(right.children, 0, left.children[end+1])
		left.children = slices.Delete(left.children, end+1, end+2)
	}
}

// shiftLeft lets the first item behind the item at a place come there, and that one ahead of it.
func (n *node[K, V]) shiftLeft(at int) {
	left, right := n.children[at], n.children[at+1]
	left.items = append(left.items, n.items[at])
	n.items[at] = right.items[0]
	right.items = slices.Delete(right.items, 0, 1)
	if !left.leaf() {
		left.children = append(left.children, right.children[0])
		right.children = slices.Delete(right.children, 0, 1)
	}
}

// join makes one child of the two beside the item at a place, and that.
func (n *node[K, V]) join(at int) {
	left, right := n.children[at], n.children[at+1]
	left.items = append(append(left.items, n.items[at]), right.items...)
	left.children = append(left.children, right.children...)
	n.items = slices.Delete(n.items, at, at+1)
	n.children = slices.Delete(n.children, at+1, at+2)
}

func (n *node[K, V]) clone() *node[K, V] {
	twin := &node[K, V]{items: slices.Clone(n.items)}
	for _, child := range n.children {
		twin.children = append(twin.children, child.clone())
	}
	return twin
}
