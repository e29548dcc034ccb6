package filter

import (
	"math"
	"slices"
	"testing"

	"argosy/api"
)

// P14.5: the order of tags, however they came.
func TestTagsRise(t *testing.T) {
	for _, tags := range [][]api.Tag{nearTags(), shuffled(nearTags()), reversed(nearTags())} {
		r, g := Region(1), Global()
		for _, tag := range tags {
			item(t, r, run(homed(tag, 1)), true)
			entry(t, g, moving(tag, 1), true)
		}
		stands(t, r, -1, nearTags()...)
		stands(t, g, -1, nearTags()...)
		stands(t, Restore(1, -1, tags), -1, nearTags()...)
		stands(t, Restore(-1, -1, tags), -1, nearTags()...)
	}
}

func reversed(tags []api.Tag) []api.Tag {
	tags = slices.Clone(tags)
	slices.Reverse(tags)
	return tags
}

// P14.5: each Last and each list of tags, also those that stand there twice.
func TestRestore(t *testing.T) {
	near := nearTags()
	for _, last := range []int{-1, 0, 1, 31, 62, 63} {
		stands(t, Restore(2, last, nil), last)
		stands(t, Restore(2, last, []api.Tag{}), last)
		stands(t, Restore(2, last, near[4:5]), last, near[4])
		stands(t, Restore(2, last, slices.Repeat(near[:1], 3)), last, near[0])
		stands(t, Restore(2, last, slices.Concat(reversed(near), shuffled(near))), last, near...)
	}
	for _, region := range []int{math.MinInt, -2, -1} {
		g := Restore(region, -1, slices.Concat(near[3:7], near[2:5]))
		stands(t, g, -1, near[2:7]...)
		entry(t, g, moving(near[2], 0), false)
		entry(t, g, homed(near[6], 0, 1), false)
		entry(t, g, homed(near[7], 1), false)
		entry(t, g, homed(near[7], 0, 1), true)
		entry(t, g, homed(near[7], 0, 1), false)
		stands(t, g, -1, near[2:8]...)
	}
}

// P14.5: one that is restored goes on as the elder one would.
func TestRestoredGoesOn(t *testing.T) {
	near := nearTags()
	f := Restore(1, 5, []api.Tag{near[4], near[1], near[4]})
	item(t, f, run(homed(near[1], 1)), false)
	item(t, f, run(homed(near[4], 1)), false)
	item(t, f, run(homed(near[2], 0)), false)
	item(t, f, run(homed(near[2], 1)), true)
	item(t, f, run(homed(near[2], 1)), false)
	item(t, f, piece(5, homed(near[1], 1, 2)), false)
	item(t, f, piece(4, homed(near[1], 1, 2)), false)
	item(t, f, piece(8, homed(near[1], 0, 2)), false)
	stands(t, f, 5, near[1], near[2], near[4])
	item(t, f, piece(6, homed(near[1], 1, 2)), true)
	stands(t, f, 6, near[1], near[2], near[4])
}

// P14.5, rule 6: a filter and what is restored of it are two.
func TestRestoredIsByItself(t *testing.T) {
	f := Region(0)
	item(t, f, run(homed(numbered(1), 0)), true)
	item(t, f, piece(3, moving(numbered(5), 0)), true)
	g := Restore(0, f.Last(), f.Tags())
	item(t, f, run(homed(numbered(2), 0)), true)
	item(t, f, piece(8, moving(numbered(5), 0)), true)
	stands(t, g, 3, numbered(1))
	item(t, g, run(homed(numbered(77), 0)), true)
	item(t, g, piece(4, moving(numbered(5), 0)), true)
	stands(t, g, 4, numbered(1), numbered(77))
	stands(t, f, 8, numbered(1), numbered(2))
}

// P14.6: a list of tags isn't changed, its spare room neither, and isn't kept.
func TestTagsAreLeft(t *testing.T) {
	near := nearTags()
	given := slices.Grow(reversed(near), 9)
	given = append(given, near[3])
	before := slices.Clone(given[:cap(given)])
	f := Restore(0, 2, given)
	if !slices.Equal(given[:cap(given)], before) {
		t.Errorf("the tags were changed: %v", given[:cap(given)])
	}
	clear(given[:cap(given)])
	stands(t, f, 2, near...)
	item(t, f, run(homed(near[5], 0)), false)
	item(t, f, run(homed(numbered(77), 0)), true)
	if slices.ContainsFunc(given[:cap(given)], func(tag api.Tag) bool { return tag != api.Tag{} }) {
		t.Errorf("the tags are kept: %v", given[:cap(given)])
	}
}

// Rule 5: lists of tags are new memory, of each answer by itself, the spare room too.
func TestListsAreNew(t *testing.T) {
	near := nearTags()
	f := Restore(0, 2, near)
	first, second := f.Tags(), f.Tags()
	clear(first[:cap(first)])
	if !slices.Equal(second, near) {
		t.Errorf("two answers share memory: %v", second)
	}
	stands(t, f, 2, near...)
	item(t, f, run(homed(numbered(77), 0)), true)
	if !slices.Equal(second, near) {
		t.Errorf("an answer goes on with the filter: %v", second)
	}
}

// P14.6: an order isn't changed, its spare room neither, and isn't kept.
func TestOrdersAreLeft(t *testing.T) {
	marks := append(make([]api.Mark, 0, 5), api.Mark{Key: "a", Home: 2}, api.Mark{Key: "b", Home: 0}, api.Mark{Key: "c", Home: 2})
	before := slices.Clone(marks[:cap(marks)])
	split := api.Order{Tag: numbered(1), Txn: api.Txn{Kind: api.TxRun}, Marks: marks}
	alone := api.Order{Tag: numbered(2), Txn: api.Txn{Kind: api.TxRun}, Marks: marks[2:]}
	f, g := Region(2), Global()
	item(t, f, piece(0, split), true)
	item(t, f, run(alone), true)
	entry(t, g, split, true)
	entry(t, g, alone, false)
	if !slices.Equal(marks[:cap(marks)], before) {
		t.Errorf("the marks were changed: %v", marks[:cap(marks)])
	}
	clear(marks[:cap(marks)])
	stands(t, f, 0, numbered(2))
	stands(t, g, -1, numbered(1))
	item(t, f, run(homed(numbered(2), 2)), false)
	entry(t, g, homed(numbered(1), 2, 0), false)
}
