package split

import (
	"math"
	"slices"
	"testing"

	"argosy/api"
	"argosy/filter"
	"argosy/order"
)

// The chapter's example.
func TestExample(t *testing.T) {
	global := log(homed(1, 0, 1), homed(2, 1, 2))
	parts(t, global, 0, 0)
	parts(t, global, 1, 0, 1)
	parts(t, global, 2, 1)
}

// P15.1: the marks of a region, in their order, of any order.
func TestPart(t *testing.T) {
	o := homed(1, 2, 0, 2, 1, 0, 2)
	for _, c := range []struct {
		region int
		places []int
	}{
		{0, []int{1, 4}}, {1, []int{3}}, {2, []int{0, 2, 5}}, {3, nil}, {-1, nil}, {math.MinInt, nil}, {math.MaxInt, nil},
	} {
		var want []api.Mark
		for _, place := range c.places {
			want = append(want, o.Marks[place])
		}
		if got := Part(o, c.region); !slices.Equal(got, want) {
			t.Errorf("region %d: %v, want %v", c.region, got, want)
		}
	}
	for region := -1; region < 4; region++ {
		if got := Part(homed(1), region); len(got) != 0 {
			t.Errorf("of no marks, region %d: %v", region, got)
		}
	}
	if got := Part(moving(1, 2), 2); !slices.Equal(got, moving(1, 2).Marks) {
		t.Errorf("of a move: %v", got)
	}
	strange := api.Order{Marks: []api.Mark{{Key: "z", Home: 7}, {Key: "a", Home: -1}, {Key: "a", Home: 7, Count: 9}, {Key: "z", Home: 7}}}
	if got := Part(strange, 7); !slices.Equal(got, []api.Mark{{Key: "z", Home: 7}, {Key: "a", Home: 7, Count: 9}, {Key: "z", Home: 7}}) {
		t.Errorf("of marks in no order: %v", got)
	}
	if got := Part(strange, -1); !slices.Equal(got, []api.Mark{{Key: "a", Home: -1}}) {
		t.Errorf("of a home below 0: %v", got)
	}
}

// P15.1: the parts of an order for its homes are all of its marks.
func TestPartsAreTheWhole(t *testing.T) {
	for _, o := range thrown(steps(3), 200) {
		marks := 0
		for region := range api.MaxRegions {
			part := Part(o, region)
			if len(o.Marks) > 0 && len(part) > 0 != slices.Contains(order.Homes(o), region) {
				t.Errorf("%v, region %d: %v", o.Marks, region, part)
			}
			marks += len(part)
		}
		if marks != len(o.Marks) {
			t.Errorf("%v: %d marks", o.Marks, marks)
		}
	}
}

// P15.2: a log without entries, and one without any for a region.
func TestNoPieces(t *testing.T) {
	for _, global := range [][]api.Order{nil, {}, log(homed(1, 0, 1), moving(2, 1), homed(3, 2), homed(4))} {
		for _, region := range []int{math.MinInt, -1, 2, 3, math.MaxInt} {
			parts(t, global, region)
			for _, last := range []int{math.MinInt, -1, 0, 1, 63, math.MaxInt} {
				none(t, global, region, last)
			}
		}
	}
}

// P15.2: single orders have no pieces, moves have them, and places are counted over all entries.
func TestWhichEntries(t *testing.T) {
	global := log(
		homed(1, 1), homed(2, 1, 1, 1), moving(3, 1), homed(4), homed(5, 0, 1),
		homed(6, 2, 0, 2), moving(7, 0), homed(8, 2), homed(9, 2, 1, 0), moving(10, 2),
		api.Order{Tag: numbered(11), Txn: api.Txn{Kind: api.TxMove}},
	)
	parts(t, global, 0, 4, 5, 6, 8, 10)
	parts(t, global, 1, 2, 4, 8)
	parts(t, global, 2, 5, 8, 9)
}

// P15.2: an order that comes again has no second pieces, not even for homes that it hadn't; a single one with its Tag takes none away.
func TestOrdersThatComeAgain(t *testing.T) {
	global := log(homed(1, 0), homed(1, 0, 1), homed(1, 0, 1), homed(1, 1, 2), moving(1, 2), homed(2, 1, 2), moving(1, 0), homed(2, 1, 2))
	parts(t, global, 0, 1)
	parts(t, global, 1, 1, 5)
	parts(t, global, 2, 5)
	next(t, global, 1, 1, 5)
	none(t, global, 0, 1)
	none(t, global, 1, 5)
	none(t, global, 2, 5)
	other := api.Tag{Id: numbered(1).Id, Try: 1}
	again := homed(1, 0, 1)
	again.Tag = other
	parts(t, append(global, again), 0, 1, 8)
}

// P15.2: the first piece behind any number.
func TestNext(t *testing.T) {
	global := log(homed(1, 0, 2), homed(2, 0, 1), homed(3, 1), moving(4, 1), homed(5, 2, 0), homed(6, 0, 1))
	for _, last := range []int{math.MinInt, -2, -1, 0} {
		next(t, global, 1, last, 1)
	}
	next(t, global, 1, 1, 3)
	next(t, global, 1, 2, 3)
	next(t, global, 1, 3, 5)
	next(t, global, 1, 4, 5)
	for _, last := range []int{5, 6, 63, 64, math.MaxInt} {
		none(t, global, 1, last)
	}
	next(t, global, 0, -1, 0)
	next(t, global, 0, 0, 1)
	next(t, global, 2, 0, 4)
}

// P15.2: a whole log, of which each entry is for all regions.
func TestWholeLog(t *testing.T) {
	var global []api.Order
	var places []int
	for place := range api.MaxLog {
		global = append(global, homed(uint64(place+1), 2, 1, 0))
		places = append(places, place)
	}
	for region := range api.MaxRegions {
		parts(t, global, region, places...)
		next(t, global, region, 62, 63)
		none(t, global, region, 63)
	}
}

// wanted gives the places of the entries that are pieces for a region, by the words of the chapters.
func wanted(global []api.Order, region int) []int {
	var places []int
	for place, o := range global {
		again := slices.ContainsFunc(global[:place], func(elder api.Order) bool {
			return elder.Tag == o.Tag && !order.Single(elder)
		})
		if !again && !order.Single(o) && slices.Contains(order.Homes(o), region) {
			places = append(places, place)
		}
	}
	return places
}

// P15.2, P15.3: any logs, whole and up to each of their entries: the pieces go on, and each Next is the first of them behind a number.
func TestAnyLogs(t *testing.T) {
	throw := steps(15)
	count := 0
	for range 60 {
		global := thrown(throw, 1+throw(40))
		for region := range api.MaxRegions {
			places := wanted(global, region)
			parts(t, global, region, places...)
			count += len(places)
			var before []api.Item
			for length := range len(global) + 1 {
				pieces := Pieces(global[:length], region)
				if len(pieces) < len(before) || !sameItems(pieces[:len(before)], before) {
					t.Fatalf("the first %d of %v, region %d: %v behind %v", length, global, region, pieces, before)
				}
				before = pieces
			}
			for last := -2; last <= len(global); last++ {
				behind, _ := slices.BinarySearch(places, last+1)
				if behind == len(places) {
					none(t, global, region, last)
				} else {
					next(t, global, region, last, places[behind])
				}
			}
		}
		if t.Failed() {
			t.Fatal(global)
		}
	}
	if count < 500 {
		t.Errorf("only %d pieces", count)
	}
}

// P15.2, P14.2: in a region's log each piece counts in its turn, and the one that is next is that behind the last one that has counted.
func TestPiecesCount(t *testing.T) {
	global := thrown(steps(16), api.MaxLog)
	for region := range api.MaxRegions {
		f := filter.Region(region)
		for _, piece := range Pieces(global, region) {
			if _, err := order.WriteItem(piece); err != api.OK {
				t.Errorf("a piece that isn't right: %v", piece)
			}
			if due, ok := Next(global, region, f.Last()); !ok || !sameItem(due, piece) {
				t.Errorf("behind %d: %v, %v, want %v", f.Last(), due, ok, piece)
			}
			if !f.Item(piece) || f.Item(piece) {
				t.Errorf("a piece that doesn't count once: %v", piece)
			}
		}
		none(t, global, region, f.Last())
	}
}
