package split

import (
	"math"
	"slices"
	"testing"

	"argosy/api"
	"argosy/order"
)

// copies gives a log as new memory.
func copies(global []api.Order) []api.Order {
	var all []api.Order
	for _, o := range global {
		all = append(all, order.Copy(o))
	}
	return all
}

// roomy gives an order's lists spare room.
func roomy(o api.Order) api.Order {
	o.Txn.Reads, o.Txn.Writes, o.Txn.Ops = slices.Grow(o.Txn.Reads, 9), slices.Grow(o.Txn.Writes, 9), slices.Grow(o.Txn.Ops, 9)
	for i := range o.Txn.Ops {
		o.Txn.Ops[i].Value = slices.Grow(o.Txn.Ops[i].Value, 9)
	}
	o.Marks = slices.Grow(o.Marks, 9)
	return o
}

// memory gives all that stands in an order's lists and in their spare room, as new memory.
func memory(o api.Order) api.Order {
	o.Txn.Reads, o.Txn.Writes = o.Txn.Reads[:cap(o.Txn.Reads)], o.Txn.Writes[:cap(o.Txn.Writes)]
	o.Txn.Ops = slices.Clone(o.Txn.Ops[:cap(o.Txn.Ops)])
	for i, op := range o.Txn.Ops {
		o.Txn.Ops[i].Value = op.Value[:cap(op.Value)]
	}
	o.Marks = o.Marks[:cap(o.Marks)]
	return order.Copy(o)
}

// spoil writes over all that stands in an order's lists and in their spare room.
func spoil(o api.Order) {
	for _, op := range o.Txn.Ops {
		clear(op.Value[:cap(op.Value)])
	}
	clear(o.Txn.Ops[:cap(o.Txn.Ops)])
	for _, keys := range [][]string{o.Txn.Reads, o.Txn.Writes} {
		clear(keys[:cap(keys)])
	}
	clear(o.Marks[:cap(o.Marks)])
}

// P15.4: what is handed in isn't changed, its spare room neither.
func TestGivenIsLeft(t *testing.T) {
	global := slices.Grow(log(homed(1, 2, 0, 2), moving(2, 0), homed(1, 0, 1)), 9)
	for i := range global {
		global[i] = roomy(global[i])
	}
	var before []api.Order
	for _, o := range global[:cap(global)] {
		before = append(before, memory(o))
	}
	for region := range 3 {
		Part(global[0], region)
		Next(global, region, -1)
		Next(global, region, 0)
		Pieces(global, region)
	}
	for i, o := range global[:cap(global)] {
		if !same(memory(o), before[i]) {
			t.Errorf("the entry %d was changed: %v", i, memory(o))
		}
	}
}

// P15.4: what is handed in isn't kept.
func TestGivenIsNotKept(t *testing.T) {
	global := log(roomy(homed(1, 2, 0, 2)), roomy(moving(2, 0)))
	want := copies(global)
	part, pieces := Part(global[0], 2), Pieces(global, 0)
	piece, ok := Next(global, 0, 0)
	for _, o := range global {
		spoil(o)
	}
	clear(global)
	if !slices.Equal(part, []api.Mark{want[0].Marks[0], want[0].Marks[2]}) {
		t.Errorf("the part shares memory: %v", part)
	}
	if !ok || !sameItem(piece, pieceOf(1, want[1])) {
		t.Errorf("the next piece shares memory: %v", piece)
	}
	if !sameItems(pieces, []api.Item{pieceOf(0, want[0]), pieceOf(1, want[1])}) {
		t.Errorf("the pieces share memory: %v", pieces)
	}
}

// P15.4: answers are new memory, of each list by itself.
func TestAnswersAreNew(t *testing.T) {
	global := log(homed(1, 2, 0, 2), homed(2, 1, 2, 1))
	global = append(global, global[0])
	global[2].Tag = numbered(3)
	want := copies(global)
	marks := Part(global[0], 2)
	for i := range 3 {
		pieces, others := Pieces(global, 2), Pieces(global, 2)
		piece, _ := Next(global, 2, i-1)
		spoil(pieces[i].Order)
		for k := range 3 {
			if k != i && !sameItem(pieces[k], pieceOf(k, want[k])) || !sameItem(others[k], pieceOf(k, want[k])) || !same(global[k], want[k]) {
				t.Errorf("the piece %d shares memory with %d", i, k)
			}
		}
		if !sameItem(piece, pieceOf(i, want[i])) {
			t.Errorf("the piece %d shares memory with Next", i)
		}
		spoil(piece.Order)
		clear(pieces[:cap(pieces)])
		if again, _ := Next(global, 2, i-1); !sameItem(again, pieceOf(i, want[i])) || !same(global[i], want[i]) {
			t.Errorf("two Nexts share memory: %v", again)
		}
	}
	other := Part(global[0], 2)
	clear(marks[:cap(marks)])
	if !slices.Equal(other, []api.Mark{want[0].Marks[0], want[0].Marks[2]}) || !same(global[0], want[0]) {
		t.Errorf("two parts share memory: %v", other)
	}
}

// P15.4: a part of all marks is a list of its own, too.
func TestPartOfAllMarks(t *testing.T) {
	o := moving(1, 1)
	part := Part(o, 1)
	clear(part[:cap(part)])
	if !same(o, moving(1, 1)) {
		t.Errorf("the part shares memory: %v", o)
	}
}

// P2: two runs of the same calls give the same answers, and one call twice.
func TestSameAnswers(t *testing.T) {
	one, two := thrown(steps(2), 64), thrown(steps(2), 64)
	for region := range 3 {
		if !sameItems(Pieces(one, region), Pieces(two, region)) || !sameItems(Pieces(one, region), Pieces(one, region)) {
			t.Errorf("pieces for %d differ", region)
		}
		for last := -1; last < 64; last++ {
			a, has := Next(one, region, last)
			b, also := Next(two, region, last)
			if !sameItem(a, b) || has != also {
				t.Errorf("Next for %d behind %d: %v, %v", region, last, a, b)
			}
		}
		if !slices.Equal(Part(one[0], region), Part(two[0], region)) {
			t.Errorf("parts for %d differ", region)
		}
	}
}

// P1: calls of any arguments end.
func TestAnyArguments(t *testing.T) {
	numbers := []int{math.MinInt, -1, 0, 1, 63, 64, math.MaxInt}
	many := homed(9)
	for i := range 5000 {
		many.Marks = append(many.Marks, api.Mark{Home: numbers[i%len(numbers)]})
	}
	strange := log(api.Order{}, many, homed(0, numbers...), moving(0, math.MinInt), moving(1, math.MaxInt))
	for range 300 {
		strange = append(strange, many)
	}
	for _, a := range numbers {
		pieces := Pieces(strange, a)
		for _, piece := range pieces {
			Part(piece.Order, a)
		}
		for _, b := range numbers {
			piece, ok := Next(strange, a, b)
			if ok && piece.Index <= b || !ok && !sameItem(piece, api.Item{}) {
				t.Errorf("Next for %d behind %d: %v, %v", a, b, piece, ok)
			}
			Part(api.Order{Marks: []api.Mark{{Home: b}}}, a)
		}
	}
}
