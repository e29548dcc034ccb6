package filter

import (
	"math"
	"testing"

	"argosy/api"
)

// The chapter's example.
func TestExample(t *testing.T) {
	f := Region(1)
	o := homed(numbered(1), 1)
	item(t, f, run(o), true)
	item(t, f, run(o), false)
	item(t, f, run(homed(numbered(2), 2)), false)
	stands(t, f, -1, numbered(1))
}

// P14.1, P14.4, P14.5: nothing came.
func TestNew(t *testing.T) {
	stands(t, Global(), -1)
	for _, region := range []int{math.MinInt, -1, 0, 1, 2, 3, math.MaxInt} {
		stands(t, Region(region), -1)
	}
}

// P14.2: each kind of an item, of orders with all choices of homes, at each region.
func TestWhichItemsCount(t *testing.T) {
	tag := numbered(5)
	of := func(regions ...int) []int { return regions }
	for _, c := range []struct {
		name         string
		order        api.Order
		runs, pieces []int // the regions in which they count
	}{
		{"no marks", homed(tag), of(0), nil},
		{"0", homed(tag, 0), of(0), nil},
		{"1", homed(tag, 1), of(1), nil},
		{"2", homed(tag, 2), of(2), nil},
		{"1 twice", homed(tag, 1, 1), of(1), nil},
		{"2 eight times", homed(tag, 2, 2, 2, 2, 2, 2, 2, 2), of(2), nil},
		{"0 and 1", homed(tag, 0, 1), nil, of(0, 1)},
		{"1 and 0", homed(tag, 1, 0), nil, of(0, 1)},
		{"0 and 2", homed(tag, 0, 2), nil, of(0, 2)},
		{"2, 1, 2", homed(tag, 2, 1, 2), nil, of(1, 2)},
		{"all", homed(tag, 0, 1, 2), nil, of(0, 1, 2)},
		{"the last one alone in 1", homed(tag, 0, 0, 0, 0, 0, 0, 0, 1), nil, of(0, 1)},
		{"a move in 0", moving(tag, 0), nil, of(0)},
		{"a move in 1", moving(tag, 1), nil, of(1)},
		{"a move in 2, to 2", moving(tag, 2), nil, of(2)},
		{"a move without marks", api.Order{Tag: tag, Txn: api.Txn{Kind: api.TxMove}}, nil, of(0)},
		{"a Txn of no kind", api.Order{Tag: tag, Marks: homed(tag, 1).Marks}, nil, of(1)},
	} {
		for region := range 3 {
			counts := func(regions []int) bool {
				for _, r := range regions {
					if r == region {
						return true
					}
				}
				return false
			}
			f := Region(region)
			item(t, f, run(c.order), counts(c.runs))
			if counts(c.runs) {
				stands(t, f, -1, tag)
			} else {
				stands(t, f, -1)
			}
			f = Region(region)
			item(t, f, piece(7, c.order), counts(c.pieces))
			if counts(c.pieces) {
				stands(t, f, 7)
			} else {
				stands(t, f, -1)
			}
		}
		if t.Failed() {
			t.Fatal(c.name)
		}
	}
}

// P14.2: items of other kinds don't count, and change nothing.
func TestOtherKinds(t *testing.T) {
	f := Region(1)
	for _, kind := range []int{math.MinInt, -1, 0, 3, 4, math.MaxInt} {
		for _, index := range []int{0, 1, 63} {
			item(t, f, api.Item{Kind: kind, Index: index, Order: homed(numbered(1), 1)}, false)
			item(t, f, api.Item{Kind: kind, Index: index, Order: homed(numbered(1), 1, 2)}, false)
			item(t, f, api.Item{Kind: kind, Index: index, Order: moving(numbered(1), 1)}, false)
			stands(t, f, -1)
		}
	}
	item(t, f, api.Item{}, false)
	stands(t, f, -1)
}

// P14.2: a Tag is another one, if anything of it is.
func TestTagsOfRuns(t *testing.T) {
	f := Region(2)
	for i, tag := range nearTags() {
		item(t, f, run(homed(tag, 2)), true)
		item(t, f, run(homed(tag, 2)), false)
		item(t, f, run(homed(tag, 2, 2)), false)
		stands(t, f, -1, nearTags()[:i+1]...)
	}
	for _, tag := range nearTags() {
		item(t, f, run(homed(tag, 2)), false)
	}
	stands(t, f, -1, nearTags()...)
}

// P14.2: a run that doesn't count keeps no later one with its Tag from counting.
func TestRunsThatDoNotCount(t *testing.T) {
	f := Region(0)
	tag := numbered(1)
	item(t, f, run(homed(tag, 1)), false)
	item(t, f, run(homed(tag, 0, 1)), false)
	item(t, f, run(moving(tag, 0)), false)
	item(t, f, piece(0, homed(tag, 0)), false)
	stands(t, f, -1)
	item(t, f, run(homed(tag, 0)), true)
	item(t, f, run(homed(tag, 0)), false)
	stands(t, f, -1, tag)
}

// P14.2, P14.1: pieces count whose Index is above that of each one that did.
func TestPieces(t *testing.T) {
	f := Region(1)
	for _, c := range []struct {
		index int
		want  bool
		last  int
	}{
		{math.MinInt, false, -1}, {-2, false, -1}, {-1, false, -1},
		{0, true, 0}, {0, false, 0}, {-1, false, 0},
		{1, true, 1}, {0, false, 1}, {1, false, 1},
		{5, true, 5}, {2, false, 5}, {4, false, 5}, {5, false, 5}, {6, true, 6},
		{62, true, 62}, {63, true, 63}, {62, false, 63}, {63, false, 63}, {0, false, 63},
	} {
		item(t, f, piece(c.index, homed(numbered(1), 1, 2)), c.want)
		stands(t, f, c.last)
	}
}

// P14.2: pieces that don't count keep no later one from counting, however great their Index is.
func TestPiecesThatDoNotCount(t *testing.T) {
	f := Region(1)
	tag := numbered(1)
	item(t, f, piece(3, homed(tag, 1, 2)), true)
	item(t, f, piece(9, homed(tag, 0, 2)), false)
	item(t, f, piece(9, homed(tag, 1)), false)
	item(t, f, piece(9, moving(tag, 2)), false)
	item(t, f, piece(9, homed(tag)), false)
	item(t, f, run(homed(tag, 1, 2)), false)
	item(t, f, api.Item{Kind: 3, Index: 9, Order: homed(tag, 1, 2)}, false)
	stands(t, f, 3)
	item(t, f, piece(4, moving(tag, 1)), true)
	stands(t, f, 4)
}

// P14.2, P14.4: pieces are told by their Index, and runs by their Tag, and neither by the other's.
func TestRunsAndPieces(t *testing.T) {
	f := Region(0)
	tag := numbered(1)
	item(t, f, piece(2, homed(tag, 0, 1)), true)
	stands(t, f, 2)
	item(t, f, run(homed(tag, 0)), true)
	stands(t, f, 2, tag)
	item(t, f, piece(3, homed(tag, 0, 1)), true)
	item(t, f, piece(4, homed(tag, 0, 1)), true)
	stands(t, f, 4, tag)
	item(t, f, api.Item{Kind: api.ItRun, Index: 60, Order: homed(numbered(2), 0)}, true)
	stands(t, f, 4, tag, numbered(2))
	item(t, f, piece(5, homed(numbered(2), 0, 1)), true)
	stands(t, f, 5, tag, numbered(2))
}

// P14.3: orders that aren't single count once by their Tags, wherever their keys are at home.
func TestOrders(t *testing.T) {
	f := Global()
	tags := nearTags()
	for i, tag := range tags {
		one, other := homed(tag, 0, 1), moving(tag, i%3)
		if i%2 == 1 {
			one, other = other, homed(tag, 2, 1, 0)
		}
		entry(t, f, homed(tag, i%3), false)
		entry(t, f, homed(tag), false)
		entry(t, f, one, true)
		entry(t, f, one, false)
		entry(t, f, other, false)
		entry(t, f, homed(tag, i%3), false)
		stands(t, f, -1, tags[:i+1]...)
	}
	for _, tag := range tags {
		entry(t, f, moving(tag, 0), false)
	}
	stands(t, f, -1, tags...)
}

// P14.3: which orders are single, layer 9 tells.
func TestSingleOrders(t *testing.T) {
	for _, homes := range [][]int{nil, {0}, {1}, {2}, {1, 1}, {2, 2, 2, 2, 2, 2, 2, 2}} {
		f := Global()
		entry(t, f, homed(numbered(1), homes...), false)
		stands(t, f, -1)
	}
	for _, o := range []api.Order{
		homed(numbered(1), 0, 1), homed(numbered(1), 1, 2), homed(numbered(1), 2, 0), homed(numbered(1), 1, 1, 0),
		moving(numbered(1), 0), moving(numbered(1), 1), moving(numbered(1), 2),
		{Tag: numbered(1), Txn: api.Txn{Kind: api.TxMove}},
		{Tag: numbered(1)},
	} {
		f := Global()
		entry(t, f, o, true)
		entry(t, f, o, false)
		stands(t, f, -1, numbered(1))
	}
}

// Rule 6: a filter is by itself.
func TestFiltersAreByThemselves(t *testing.T) {
	a, b := Region(1), Region(1)
	item(t, a, run(homed(numbered(1), 1)), true)
	item(t, a, piece(4, homed(numbered(2), 1, 2)), true)
	stands(t, b, -1)
	g, h := Global(), Global()
	entry(t, g, moving(numbered(1), 1), true)
	stands(t, h, -1)
	stands(t, g, -1, numbered(1))
	stands(t, a, 4, numbered(1))
}
