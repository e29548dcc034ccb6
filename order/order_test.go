package order

import (
	"math"
	"slices"
	"testing"

	"argosy/api"
)

// errnoOf is what Check answers of what is right, or isn't.
func errnoOf(right bool) api.Errno {
	if right {
		return api.OK
	}
	return api.ErrArg
}

// P9.1: each field plays its part.
func TestCheck(t *testing.T) {
	for _, c := range changes() {
		o := whole()
		c.do(&o)
		for regions := 1; regions <= 3; regions++ {
			wants(t, c.name, Check(o, regions), errnoOf(c.least > 0 && regions >= c.least))
		}
		for _, regions := range []int{math.MinInt, -1, 0, 4, math.MaxInt} {
			wants(t, c.name, Check(o, regions), api.ErrArg)
		}
	}
}

// P9.1: moves, and a transaction of nothing.
func TestCheckOthers(t *testing.T) {
	for regions := -1; regions <= 5; regions++ {
		there := regions >= 1 && regions <= 3
		wants(t, "a move to 2", Check(moving(), regions), errnoOf(regions == 3))
		o := moving()
		o.Txn.To = 0
		wants(t, "a move from 1", Check(o, regions), errnoOf(there && regions >= 2))
		o.Marks[0].Home = 0
		wants(t, "a move within 0", Check(o, regions), errnoOf(there))
		o.Txn.To = 3
		wants(t, "a move beyond", Check(o, regions), api.ErrArg)
		wants(t, "nothing", Check(bare(), regions), errnoOf(there))
		wants(t, "the greatest", Check(greatest(), regions), errnoOf(regions == 3))
	}
	o := bare()
	o.Marks = []api.Mark{{Key: "a"}}
	wants(t, "a mark of no key", Check(o, 3), api.ErrArg)
	o.Marks = []api.Mark{}
	wants(t, "no marks", Check(o, 3), api.OK)
	wants(t, "an empty order", Check(api.Order{}, 3), api.ErrArg)
	nine := homed(0, 0, 0, 0, 0, 0, 0, 0, 0)
	wants(t, "nine keys", Check(nine, 3), api.ErrArg)
}

// P9.1: rising, each once, of any order.
func TestHomes(t *testing.T) {
	for _, c := range []struct{ homes, want []int }{
		{nil, []int{0}},
		{[]int{0}, []int{0}},
		{[]int{2}, []int{2}},
		{[]int{1, 1, 1}, []int{1}},
		{[]int{2, 0, 2}, []int{0, 2}},
		{[]int{2, 1, 0}, []int{0, 1, 2}},
		{[]int{0, 1, 2, 0, 1, 2, 0, 1}, []int{0, 1, 2}},
		{[]int{7, -1, math.MaxInt, math.MinInt, -1}, []int{math.MinInt, -1, 7, math.MaxInt}},
	} {
		o := homed(c.homes...)
		for _, kind := range []int{api.TxRun, api.TxMove, 0, -1, math.MaxInt} {
			o.Txn.Kind = kind
			if got := Homes(o); !slices.Equal(got, c.want) {
				t.Errorf("Homes of %v: %v, want %v", c.homes, got, c.want)
			}
			if got := Single(o); got != (kind == api.TxRun && len(c.want) == 1) {
				t.Errorf("Single of kind %d, %v: %v", kind, c.homes, got)
			}
		}
		o.Txn = api.Txn{}
		if got := Homes(o); !slices.Equal(got, c.want) {
			t.Errorf("Homes of %v without keys: %v, want %v", c.homes, got, c.want)
		}
	}
}

// P9.1: the chapter's example.
func TestHomesExample(t *testing.T) {
	o := homed(2, 0, 2)
	if !slices.Equal(Homes(o), []int{0, 2}) || Single(o) {
		t.Errorf("%v, %v", Homes(o), Single(o))
	}
}

// roomy gives an order's lists spare room, in which something stands.
func roomy(o api.Order) api.Order {
	o.Marks = append(o.Marks, api.Mark{Key: "y"}, api.Mark{Key: "y"})[:len(o.Marks)]
	o.Txn.Reads = append(o.Txn.Reads, "y", "y")[:len(o.Txn.Reads)]
	o.Txn.Writes = append(o.Txn.Writes, "y", "y")[:len(o.Txn.Writes)]
	o.Txn.Ops = append(o.Txn.Ops, api.Op{Kind: 9}, api.Op{Kind: 9})[:len(o.Txn.Ops)]
	for i, op := range o.Txn.Ops {
		o.Txn.Ops[i].Value = append(op.Value, 9, 9)[:len(op.Value)]
	}
	return o
}

// spareIsLeft tells whether the spare room is as roomy gave it.
func spareIsLeft(o api.Order) bool {
	x := o.Txn
	left := slices.Equal(o.Marks[len(o.Marks):][:2], []api.Mark{{Key: "y"}, {Key: "y"}}) &&
		slices.Equal(x.Reads[len(x.Reads):][:2], []string{"y", "y"}) &&
		slices.Equal(x.Writes[len(x.Writes):][:2], []string{"y", "y"}) &&
		x.Ops[len(x.Ops):][:2][0].Kind == 9 && x.Ops[len(x.Ops):][:2][1].Kind == 9
	for _, op := range x.Ops {
		left = left && slices.Equal(op.Value[len(op.Value):][:2], []byte{9, 9})
	}
	return left
}

// spoil writes over all of an order's lists, the spare room too.
func spoil(o api.Order) {
	for _, op := range o.Txn.Ops[:cap(o.Txn.Ops)] {
		clear(op.Value[:cap(op.Value)])
	}
	clear(o.Marks[:cap(o.Marks)])
	clear(o.Txn.Reads[:cap(o.Txn.Reads)])
	clear(o.Txn.Writes[:cap(o.Txn.Writes)])
	clear(o.Txn.Ops[:cap(o.Txn.Ops)])
}

// P9.4: a copy is the same, also of orders that aren't right.
func TestCopy(t *testing.T) {
	for _, c := range changes() {
		o := whole()
		c.do(&o)
		if !same(Copy(o), o) {
			t.Errorf("%s: the copy is another one", c.name)
		}
	}
	for _, o := range append(rightOrders(), api.Order{}, homed(-1, 99), api.Order{Marks: make([]api.Mark, 99)}) {
		if !same(Copy(o), o) {
			t.Errorf("%v: the copy is another one", o)
		}
	}
}

// P9.4: a copy is new memory, of each list by itself.
func TestCopyMemory(t *testing.T) {
	o := roomy(whole())
	first, second := Copy(o), Copy(o)
	spoil(first)
	if !same(o, whole()) || !spareIsLeft(o) || !same(second, whole()) {
		t.Errorf("a copy shares memory: %v, %v", o, second)
	}
	spoil(o)
	if !same(second, whole()) {
		t.Errorf("a copy is kept elsewhere: %v", second)
	}
}

// P9.4: Homes are new memory.
func TestHomesMemory(t *testing.T) {
	for _, o := range []api.Order{bare(), homed(2, 0, 2)} {
		want := slices.Clone(Homes(o))
		first, second := Homes(o), Homes(o)
		for i := range first[:cap(first)] {
			first[:cap(first)][i] = 9
		}
		if !slices.Equal(second, want) || !slices.Equal(Homes(o), want) {
			t.Errorf("%v, want %v", second, want)
		}
	}
}

// P9.4: what is handed in isn't changed, the spare room neither.
func TestGivenMemory(t *testing.T) {
	o := roomy(whole())
	Check(o, 3)
	Homes(o)
	Single(o)
	Write(o)
	WriteItem(itemOf(api.ItPiece, 3, o))
	Copy(o)
	if !same(o, whole()) || !spareIsLeft(o) {
		t.Errorf("%v, was %v", o, whole())
	}
}

// P1: calls of any order end.
func TestAnyOrder(t *testing.T) {
	ops := []api.Op{{}, {Kind: math.MinInt, N: math.MinInt64}, {Kind: math.MaxInt, Key: "\xff", Value: make([]byte, 999), N: math.MaxInt64}}
	for _, o := range []api.Order{
		{},
		{Marks: make([]api.Mark, 999)},
		{Tag: api.Tag{Id: api.Id{Node: math.MinInt}, Try: math.MinInt}, Txn: api.Txn{Kind: math.MinInt, To: math.MinInt, Ops: ops}},
		{Tag: api.Tag{Id: api.Id{Node: math.MaxInt, Epoch: math.MaxUint64}, Try: math.MaxInt}, Txn: api.Txn{Kind: api.TxRun, Reads: make([]string, 999), Writes: make([]string, 999)}},
		{Txn: api.Txn{Kind: api.TxMove}, Marks: []api.Mark{{Home: math.MaxInt}, {Home: math.MinInt, Count: math.MaxUint64}}},
	} {
		for _, regions := range []int{math.MinInt, -1, 0, 1, 3, math.MaxInt} {
			wants(t, "Check", Check(o, regions), api.ErrArg)
		}
		if b, err := Write(o); len(b) != 0 || err != api.ErrArg {
			t.Errorf("Write of %v: %v, %v", o, b, err)
		}
		for _, kind := range []int{math.MinInt, -1, 0, 1, 2, 3, math.MaxInt} {
			for _, index := range []int{math.MinInt, -1, 0, 1, 63, 64, math.MaxInt} {
				if b, err := WriteItem(itemOf(kind, index, o)); len(b) != 0 || err != api.ErrArg {
					t.Errorf("WriteItem of %v: %v, %v", o, b, err)
				}
			}
		}
		Homes(o)
		Single(o)
	}
}
