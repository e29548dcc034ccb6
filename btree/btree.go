// Package btree is layer 2: see shared/doc/02-btree.md.
package btree

import (
	"cmp"
	"iter"
)

// Tree is values by keys, in the keys' order.
type Tree[K cmp.Ordered, V any] struct {
	root  *node[K, V]
	count int
}

// New gives an empty Tree.
func New[K cmp.Ordered, V any]() *Tree[K, V] {
	return &Tree[K, V]{root: &node[K, V]{}}
}

// Put gives a key a value; the value that it had.
func (t *Tree[K, V]) Put(key K, value V) (V, bool) {
	old, had := t.root.put(key, value)
	if had {
		return old, true
	}
	t.count++
	if len(t.root.items) > most {
		t.root = &node[K, V]{children: []*node[K, V]{t.root}}
		t.root.part(0)
	}
	return old, false
}

// Get gives the value of a key.
func (t *Tree[K, V]) Get(key K) (value V, ok bool) {
	n := t.root
	for {
		at, found := find(n.items, key)
		if found {
			return n.items[at].value, true
		}
		if n.leaf() {
			return value, false
		}
		n = n.children[at]
	}
}

// Delete takes a key out; the value that it had.
func (t *Tree[K, V]) Delete(key K) (value V, ok bool) {
	value, ok = t.root.take(key)
	if !ok {
		return value, false
	}
	t.count--
	if len(t.root.items) == 0 && !t.root.leaf() {
		t.root = t.root.children[0]
	}
	return value, true
}

// Len tells how many keys there are.
func (t *Tree[K, V]) Len() int {
	return t.count
}

// All goes through all keys and values.
func (t *Tree[K, V]) All() iter.Seq2[K, V] {
	return func(yield func(K, V) bool) {
		t.root.all(yield)
	}
}

// From goes through the keys that don't come ahead of one.
func (t *Tree[K, V]) From(key K) iter.Seq2[K, V] {
	return func(yield func(K, V) bool) {
		t.root.from(key, yield)
	}
}

// Keys gives the keys.
func (t *Tree[K, V]) Keys() []K {
	keys := make([]K, 0, t.count)
	for key := range t.All() {
		keys = append(keys, key)
	}
	return keys
}

// Values gives the values.
func (t *Tree[K, V]) Values() []V {
	values := make([]V, 0, t.count)
	for _, value := range t.All() {
		values = append(values, value)
	}
	return values
}

// First gives the first key that doesn't come ahead of one.
func (t *Tree[K, V]) First(key K) (next K, ok bool) {
	for next := range t.From(key) {
		return next, true
	}
	return next, false
}

// Clone gives a Tree of the same keys and values.
func (t *Tree[K, V]) Clone() *Tree[K, V] {
	return &Tree[K, V]{root: t.root.clone(), count: t.count}
}
