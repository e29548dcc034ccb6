package filter

import (
	"slices"
	"testing"

	"argosy/api"
)

func tagOf(node int, epoch, seq uint64, try int) api.Tag {
	return api.Tag{Id: api.Id{Node: node, Epoch: epoch, Seq: seq}, Try: try}
}

// numbered gives a tag that differs from others by its Seq alone.
func numbered(seq uint64) api.Tag {
	return tagOf(0, 1, seq, 0)
}

// homed gives a run's order whose keys have these homes, as new memory.
func homed(tag api.Tag, homes ...int) api.Order {
	o := api.Order{Tag: tag, Txn: api.Txn{Kind: api.TxRun}}
	for i, home := range homes {
		key := "k" + string('a'+rune(i))
		o.Txn.Reads = append(o.Txn.Reads, key)
		o.Marks = append(o.Marks, api.Mark{Key: key, Home: home, Count: uint64(i)})
	}
	return o
}

// moving gives the order of a move of a key that is at home in one region.
func moving(tag api.Tag, home int) api.Order {
	return api.Order{
		Tag:   tag,
		Txn:   api.Txn{Kind: api.TxMove, Writes: []string{"k"}, To: 2},
		Marks: []api.Mark{{Key: "k", Home: home, Count: 3}},
	}
}

func run(o api.Order) api.Item {
	return api.Item{Kind: api.ItRun, Order: o}
}

func piece(index int, o api.Order) api.Item {
	return api.Item{Kind: api.ItPiece, Index: index, Order: o}
}

// item hands the next entry of a region's log to a filter, and fails, unless it counts just when it should.
func item(t *testing.T, f *Filter, i api.Item, want bool) {
	t.Helper()
	if got := f.Item(i); got != want {
		t.Errorf("Item of kind %d, index %d, %v: %v, want %v", i.Kind, i.Index, i.Order, got, want)
	}
}

// entry hands the next entry of the global log to a filter, and fails, unless it counts just when it should.
func entry(t *testing.T, f *Filter, o api.Order, want bool) {
	t.Helper()
	if got := f.Order(o); got != want {
		t.Errorf("Order of %v: %v, want %v", o, got, want)
	}
}

// stands fails, unless a filter has this Last, and these tags in this order.
func stands(t *testing.T, f *Filter, last int, tags ...api.Tag) {
	t.Helper()
	if f.Last() != last {
		t.Errorf("Last %d, want %d", f.Last(), last)
	}
	if got := f.Tags(); !slices.Equal(got, tags) {
		t.Errorf("Tags %v, want %v", got, tags)
	}
	for _, tag := range tags {
		if !f.Has(tag) {
			t.Errorf("Has of %v: false", tag)
		}
	}
	for _, tag := range append(nearTags(), numbered(1), numbered(2), numbered(77)) {
		if got, want := f.Has(tag), slices.Contains(tags, tag); got != want {
			t.Errorf("Has of %v: %v, want %v", tag, got, want)
		}
	}
}

// nearTags are tags that differ from each other in one thing at least, in the order of P14.5.
func nearTags() []api.Tag {
	return []api.Tag{
		{},
		tagOf(0, 1, 1, 1),
		tagOf(0, 1, 1, 2),
		tagOf(0, 1, 2, 0),
		tagOf(0, 1, 10, 0),
		tagOf(0, 2, 1, 0),
		tagOf(0, 2, 1, 1),
		tagOf(0, 10, 1, 0),
		tagOf(0, 1<<63, 1, 0),
		tagOf(0, 1<<64-1, 9, 0),
		tagOf(0, 1<<64-1, 1<<32, 0),
		tagOf(0, 1<<64-1, 1<<63, 0),
		tagOf(0, 1<<64-1, 1<<64-1, 0),
		tagOf(1, 1, 1, 0),
		tagOf(1, 1, 1, 1),
		tagOf(1, 1, 2, 0),
		tagOf(1, 2, 1, 0),
		tagOf(2, 1, 1, 0),
		tagOf(8, 1, 1, 0),
		tagOf(8, 1, 1, 2),
	}
}

// shuffled gives a list in another order, which is the same in each run.
func shuffled(tags []api.Tag) []api.Tag {
	next := steps(7)
	tags = slices.Clone(tags)
	for i := len(tags) - 1; i > 0; i-- {
		k := next(i + 1)
		tags[i], tags[k] = tags[k], tags[i]
	}
	return tags
}

// steps is a row of numbers that looks thrown, and is the same in each run.
func steps(seed uint64) func(below int) int {
	return func(below int) int {
		seed = seed*6364136223846793005 + 1442695040888963407
		return int(seed>>33) % below
	}
}
