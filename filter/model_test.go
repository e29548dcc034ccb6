package filter

import (
	"math"
	"slices"
	"testing"

	"argosy/api"
)

// model is a filter that is kept by the words of the chapter: all entries that counted, in order.
type model struct {
	region int
	items  []api.Item
	orders []api.Order
}

// homes gives an order's homes by the words of layer 9.
func homes(o api.Order) map[int]struct{} {
	all := map[int]struct{}{}
	for _, m := range o.Marks {
		all[m.Home] = struct{}{}
	}
	if len(o.Marks) == 0 {
		all[0] = struct{}{}
	}
	return all
}

func single(o api.Order) bool {
	return o.Txn.Kind == api.TxRun && len(homes(o)) == 1
}

func (m *model) last() int {
	last := -1
	for _, i := range m.items {
		if i.Kind == api.ItPiece {
			last = max(last, i.Index)
		}
	}
	return last
}

func (m *model) has(tag api.Tag) bool {
	return slices.Contains(m.tags(), tag)
}

// tags gives the tags of runs and orders, in the order in which they came.
func (m *model) tags() []api.Tag {
	var tags []api.Tag
	for _, i := range m.items {
		if i.Kind == api.ItRun {
			tags = append(tags, i.Order.Tag)
		}
	}
	for _, o := range m.orders {
		tags = append(tags, o.Tag)
	}
	return tags
}

func (m *model) item(i api.Item) bool {
	_, here := homes(i.Order)[m.region]
	run := i.Kind == api.ItRun && single(i.Order) && here && !m.has(i.Order.Tag)
	piece := i.Kind == api.ItPiece && !single(i.Order) && here && i.Index > m.last()
	if run || piece {
		m.items = append(m.items, i)
	}
	return run || piece
}

func (m *model) order(o api.Order) bool {
	if single(o) || m.has(o.Tag) {
		return false
	}
	m.orders = append(m.orders, o)
	return true
}

// alike tells whether a filter and a model are, by all that they tell; each tag is asked for that any of some entries has.
func alike(f *Filter, m *model, asked []api.Tag) bool {
	tags := f.Tags()
	if f.Last() != m.last() || len(tags) != len(m.tags()) || !rise(tags) {
		return false
	}
	for _, tag := range asked {
		if f.Has(tag) != m.has(tag) || slices.Contains(tags, tag) != m.has(tag) {
			return false
		}
	}
	return true
}

// rise tells whether tags do, by Node, then Epoch, Seq, Try.
func rise(tags []api.Tag) bool {
	for i := 1; i < len(tags); i++ {
		a, b := tags[i-1], tags[i]
		switch {
		case a.Id.Node != b.Id.Node:
			if a.Id.Node > b.Id.Node {
				return false
			}
		case a.Id.Epoch != b.Id.Epoch:
			if a.Id.Epoch > b.Id.Epoch {
				return false
			}
		case a.Id.Seq != b.Id.Seq:
			if a.Id.Seq > b.Id.Seq {
				return false
			}
		case a.Try >= b.Try:
			return false
		}
	}
	return true
}

// fewItems are items of two tags, and of all kinds and homes.
func fewItems() []api.Item {
	a, b := numbered(1), numbered(2)
	return []api.Item{
		run(homed(a, 1)), run(homed(a, 0)), run(homed(a, 0, 1)), run(homed(b, 1, 1)),
		piece(0, homed(a, 1)), piece(0, homed(a, 0, 1)), piece(1, homed(a, 1, 2)), piece(1, homed(b, 0, 2)),
		piece(2, moving(b, 1)), piece(2, moving(a, 0)), {Kind: 3, Index: 3, Order: homed(b, 1, 2)},
	}
}

// P14.1, P14.2, P14.4, P14.5: all rows of four items.
func TestAllRowsOfItems(t *testing.T) {
	const length = 4
	all := fewItems()
	rows := 1
	for range length {
		rows *= len(all)
	}
	for row := range rows {
		f, m := Region(1), &model{region: 1}
		for i, rest := 0, row; i < length; i, rest = i+1, rest/len(all) {
			x := all[rest%len(all)]
			if f.Item(x) != m.item(x) || !alike(f, m, []api.Tag{numbered(1), numbered(2)}) {
				t.Fatalf("row %d, item %d: %v", row, i, x)
			}
		}
	}
}

// P14.3, P14.4, P14.5: all rows of five orders of the global log.
func TestAllRowsOfOrders(t *testing.T) {
	const length = 5
	a, b := numbered(1), numbered(2)
	all := []api.Order{homed(a, 0), homed(a, 0, 1), moving(a, 2), homed(b, 1, 2), moving(b, 0), homed(b)}
	rows := 1
	for range length {
		rows *= len(all)
	}
	for row := range rows {
		f, m := Global(), &model{}
		for i, rest := 0, row; i < length; i, rest = i+1, rest/len(all) {
			x := all[rest%len(all)]
			if f.Order(x) != m.order(x) || !alike(f, m, []api.Tag{a, b}) {
				t.Fatalf("row %d, order %d: %v", row, i, x)
			}
		}
	}
}

// thrown gives an order of one of few tags.
func thrown(next func(int) int) api.Order {
	tag := tagOf(next(3), uint64(1+next(2)), uint64(1+next(3)), next(3))
	if next(4) == 0 {
		return moving(tag, next(3))
	}
	var at []int
	for range next(4) {
		at = append(at, next(3))
	}
	return homed(tag, at...)
}

// manyTags are all that thrown gives.
func manyTags() []api.Tag {
	var tags []api.Tag
	for i := range 54 {
		tags = append(tags, tagOf(i%3, uint64(1+i/3%2), uint64(1+i/6%3), i/18))
	}
	return tags
}

// P14.1 to P14.5: long rows; a filter that is restored ahead of each entry goes on alike.
func TestLongRows(t *testing.T) {
	next := steps(14)
	runs, pieces, orders := 0, 0, 0
	for row := range 15 {
		f, m := Region(row%3), &model{region: row % 3}
		g, n := Global(), &model{}
		for i := range 120 {
			x := api.Item{Kind: 1 + next(2), Index: m.last() - 2 + next(5), Order: thrown(next)}
			r := Restore(row%3, f.Last(), shuffled(append(f.Tags(), f.Tags()...)))
			want := m.item(x)
			if f.Item(x) != want || r.Item(x) != want || !alike(f, m, manyTags()) || !alike(r, m, manyTags()) {
				t.Fatalf("row %d, item %d: %v", row, i, x)
			}
			o := thrown(next)
			r = Restore(-1-next(2), g.Last(), shuffled(append(g.Tags(), g.Tags()...)))
			want = n.order(o)
			if g.Order(o) != want || r.Order(o) != want || !alike(g, n, manyTags()) || !alike(r, n, manyTags()) {
				t.Fatalf("row %d, order %d: %v", row, i, o)
			}
		}
		runs, pieces, orders = runs+len(m.tags()), pieces+len(m.items)-len(m.tags()), orders+len(n.orders)
	}
	if runs < 90 || pieces < 90 || orders < 90 {
		t.Errorf("only %d runs, %d pieces, %d orders counted", runs, pieces, orders)
	}
}

// P2: two runs of the same calls give the same answers.
func TestSameAnswers(t *testing.T) {
	told := func() []api.Tag {
		next := steps(2)
		f := Region(1)
		var tags []api.Tag
		for i := range 200 {
			f.Item(api.Item{Kind: 1 + next(2), Index: i, Order: thrown(next)})
			tags = append(tags, tagOf(f.Last(), 0, 0, 0))
			tags = append(tags, f.Tags()...)
		}
		return tags
	}
	if !slices.Equal(told(), told()) {
		t.Error("two runs differ")
	}
}

// P1: calls of any arguments end, also those that are of the other kind of filter.
func TestAnyArguments(t *testing.T) {
	numbers := []int{math.MinInt, -1, 0, 1, 2, 3, 63, 64, math.MaxInt}
	for _, a := range numbers {
		for _, b := range numbers {
			tag := tagOf(a, 0, math.MaxUint64, b)
			for _, f := range []*Filter{Region(a), Global(), Restore(a, b, []api.Tag{tag, {}, tag})} {
				for _, o := range []api.Order{{}, homed(tag, a, b), homed(tag, b, b, b), moving(tag, a), {Tag: tag, Txn: api.Txn{Kind: a, To: b}}} {
					f.Item(api.Item{Kind: b, Index: a, Order: o})
					f.Item(run(o))
					f.Item(piece(b, o))
					f.Order(o)
					f.Has(tag)
				}
				f.Last()
				f.Tags()
			}
		}
	}
	many := homed(numbered(1), slices.Repeat([]int{2, 1, 2}, 20000)...)
	item(t, Region(1), piece(0, many), true)
	item(t, Region(0), piece(0, many), false)
	entry(t, Global(), many, true)
}
