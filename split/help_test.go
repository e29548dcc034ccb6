package split

import (
	"slices"
	"testing"

	"argosy/api"
	"argosy/prog"
)

// numbered gives a tag that differs from others by its Seq alone.
func numbered(seq uint64) api.Tag {
	return api.Tag{Id: api.Id{Node: 1, Epoch: 2, Seq: seq}}
}

// homed gives a run's order whose keys have these homes, with something to do, as new memory.
func homed(seq uint64, homes ...int) api.Order {
	o := api.Order{Tag: numbered(seq), Txn: api.Txn{Kind: api.TxRun}}
	for i, home := range homes {
		key := "k" + string('a'+rune(i))
		if i%2 == 1 {
			o.Txn.Reads = append(o.Txn.Reads, key)
		} else {
			o.Txn.Writes = append(o.Txn.Writes, key)
			o.Txn.Ops = append(o.Txn.Ops, api.Op{Kind: api.OpWrite, Key: key, Value: []byte("value")})
		}
		o.Marks = append(o.Marks, api.Mark{Key: key, Home: home, Count: uint64(i)})
	}
	return o
}

// moving gives the order of a move of a key that is at home in one region.
func moving(seq uint64, home int) api.Order {
	return api.Order{
		Tag:   numbered(seq),
		Txn:   api.Txn{Kind: api.TxMove, Writes: []string{"m"}, To: 2},
		Marks: []api.Mark{{Key: "m", Home: home, Count: 3}},
	}
}

func log(orders ...api.Order) []api.Order {
	return orders
}

func pieceOf(index int, o api.Order) api.Item {
	return api.Item{Kind: api.ItPiece, Index: index, Order: o}
}

// same tells whether two orders are one.
func same(a, b api.Order) bool {
	return a.Tag == b.Tag && prog.Same(a.Txn, b.Txn) && slices.Equal(a.Marks, b.Marks)
}

func sameItem(a, b api.Item) bool {
	return a.Kind == b.Kind && a.Index == b.Index && same(a.Order, b.Order)
}

func sameItems(a, b []api.Item) bool {
	return slices.EqualFunc(a, b, sameItem)
}

// parts fails, unless a log has the orders at these places as its pieces for a region, by both calls.
func parts(t *testing.T, global []api.Order, region int, places ...int) {
	t.Helper()
	var want []api.Item
	for _, place := range places {
		want = append(want, pieceOf(place, global[place]))
	}
	if got := Pieces(global, region); !sameItems(got, want) {
		t.Errorf("region %d: pieces %v, want %v", region, got, want)
	}
	var got []api.Item
	for last := -1; len(got) <= len(want); {
		piece, ok := Next(global, region, last)
		if !ok {
			none(t, global, region, last)
			break
		}
		got, last = append(got, piece), piece.Index
	}
	if !sameItems(got, want) {
		t.Errorf("region %d: one Next behind the other %v, want %v", region, got, want)
	}
}

// next fails, unless the first piece behind one is that of this place.
func next(t *testing.T, global []api.Order, region, last, place int) {
	t.Helper()
	if got, ok := Next(global, region, last); !ok || !sameItem(got, pieceOf(place, global[place])) {
		t.Errorf("region %d: Next behind %d: %v, %v, want %d", region, last, got, ok, place)
	}
}

// none fails, unless there is no piece behind one.
func none(t *testing.T, global []api.Order, region, last int) {
	t.Helper()
	if got, ok := Next(global, region, last); ok || !sameItem(got, api.Item{}) || got.Order.Marks != nil {
		t.Errorf("region %d: Next behind %d: %v, %v", region, last, got, ok)
	}
}

// steps is a row of numbers that looks thrown, and is the same in each run.
func steps(seed uint64) func(below int) int {
	return func(below int) int {
		seed = seed*6364136223846793005 + 1442695040888963407
		return int(seed>>33) % below
	}
}

// thrown gives a log of any orders, some of which come twice, or with other marks, or are single.
func thrown(next func(int) int, length int) []api.Order {
	var global []api.Order
	for range length {
		seq := uint64(1 + next(length))
		if next(4) == 0 {
			global = append(global, moving(seq, next(3)))
			continue
		}
		var homes []int
		for range next(5) {
			homes = append(homes, next(3))
		}
		global = append(global, homed(seq, homes...))
	}
	return global
}
