package order

import (
	"slices"
	"strings"
	"testing"

	"argosy/api"
	"argosy/code"
	"argosy/prog"
)

// steps is a row of numbers that looks thrown, and is the same in each run.
func steps(seed uint64) func(below int) int {
	return func(below int) int {
		seed = seed*6364136223846793005 + 1442695040888963407
		return int(seed>>33) % below
	}
}

// whole gives a right order with something in nearly each of its fields, as new memory.
func whole() api.Order {
	return api.Order{
		Tag: api.Tag{Id: api.Id{Node: 4, Epoch: 300, Seq: 5}, Try: 1},
		Txn: api.Txn{
			Kind:   api.TxRun,
			Reads:  []string{"b", "d"},
			Writes: []string{"a", "cc"},
			Ops: []api.Op{
				{Kind: api.OpWrite, Key: "a", Value: []byte("value")},
				{Kind: api.OpAdd, Key: "cc", N: -5},
				{Kind: api.OpRead, Key: "b"},
				{Kind: api.OpEmit, Value: []byte("e")},
				{Kind: api.OpAdd, Key: "a", N: 64},
			},
		},
		Marks: []api.Mark{{Key: "a", Home: 2, Count: 7}, {Key: "b"}, {Key: "cc", Home: 1, Count: 1}, {Key: "d", Home: 2, Count: 128}},
	}
}

// wholeBytes are those of whole, by the words of the promise.
func wholeBytes() []byte {
	return []byte("\x04\xac\x02\x05\x01" + "\x01\x00" + "\x02\x01b\x01d" + "\x02\x01a\x02cc" +
		"\x05" + "\x02\x01a\x05value\x00" + "\x06\x02cc\x00\x09" + "\x01\x01b\x00\x00" + "\x07\x00\x01e\x00" + "\x06\x01a\x00\x80\x01" +
		"\x02\x07" + "\x00\x00" + "\x01\x01" + "\x02\x80\x01")
}

// moving gives a right order of a move.
func moving() api.Order {
	return api.Order{
		Tag:   api.Tag{Id: api.Id{Node: 8, Epoch: 1, Seq: 1}, Try: 2},
		Txn:   api.Txn{Kind: api.TxMove, Writes: []string{"k"}, To: 2},
		Marks: []api.Mark{{Key: "k", Home: 1, Count: 3}},
	}
}

// bare gives a right order of a transaction of nothing.
func bare() api.Order {
	return api.Order{Tag: api.Tag{Id: api.Id{Epoch: 1, Seq: 1}}, Txn: api.Txn{Kind: api.TxRun}}
}

// homed gives an order whose keys have these homes.
func homed(homes ...int) api.Order {
	o := bare()
	for i, home := range homes {
		key := "k" + string('a'+rune(i))
		o.Txn.Reads = append(o.Txn.Reads, key)
		o.Marks = append(o.Marks, api.Mark{Key: key, Home: home, Count: uint64(i)})
	}
	return o
}

// greatest gives the right order whose bytes are the most.
func greatest() api.Order {
	o := api.Order{Tag: api.Tag{Id: api.Id{Node: 8, Epoch: 1<<64 - 1, Seq: 1<<64 - 1}, Try: 2}, Txn: api.Txn{Kind: api.TxRun}}
	for i := range api.MaxKeys {
		key := strings.Repeat(string('a'+rune(i)), api.MaxKey)
		o.Txn.Writes = append(o.Txn.Writes, key)
		o.Marks = append(o.Marks, api.Mark{Key: key, Home: i % 3, Count: 1<<64 - 1})
	}
	for i := range api.MaxOps {
		op := api.Op{Kind: api.OpWrite, Key: o.Txn.Writes[i/2], Value: make([]byte, api.MaxValue)}
		if i%2 == 1 {
			op = api.Op{Kind: api.OpAdd, Key: o.Txn.Writes[i/2], N: -1 << 63}
		}
		o.Txn.Ops = append(o.Txn.Ops, op)
	}
	return o
}

// rightOrders are orders that are right for 3 regions.
func rightOrders() []api.Order {
	return []api.Order{whole(), moving(), bare(), greatest(), homed(0), homed(2, 0, 2), homed(1, 1, 1, 1, 1, 1, 1, 1)}
}

// change is what is done to an order, and for which least number of regions it is right then; 0, if it isn't for any.
type change struct {
	name  string
	do    func(*api.Order)
	least int
}

// changes are such of whole, which itself is right for 3.
func changes() []change {
	return []change{
		{"nothing", func(o *api.Order) {}, 3},
		{"Node 0", func(o *api.Order) { o.Tag.Id.Node = 0 }, 3},
		{"Node 8", func(o *api.Order) { o.Tag.Id.Node = 8 }, 3},
		{"Node 9", func(o *api.Order) { o.Tag.Id.Node = 9 }, 0},
		{"Node below 0", func(o *api.Order) { o.Tag.Id.Node = -1 }, 0},
		{"Node far below 0", func(o *api.Order) { o.Tag.Id.Node = -1 << 63 }, 0},
		{"Node far above", func(o *api.Order) { o.Tag.Id.Node = 1<<63 - 1 }, 0},
		{"Epoch 0", func(o *api.Order) { o.Tag.Id.Epoch = 0 }, 0},
		{"Epoch 1", func(o *api.Order) { o.Tag.Id.Epoch = 1 }, 3},
		{"the last Epoch", func(o *api.Order) { o.Tag.Id.Epoch = 1<<64 - 1 }, 3},
		{"Seq 0", func(o *api.Order) { o.Tag.Id.Seq = 0 }, 0},
		{"Seq 1", func(o *api.Order) { o.Tag.Id.Seq = 1 }, 3},
		{"the last Seq", func(o *api.Order) { o.Tag.Id.Seq = 1<<64 - 1 }, 3},
		{"Try 0", func(o *api.Order) { o.Tag.Try = 0 }, 3},
		{"Try 2", func(o *api.Order) { o.Tag.Try = 2 }, 3},
		{"Try 3", func(o *api.Order) { o.Tag.Try = 3 }, 0},
		{"Try below 0", func(o *api.Order) { o.Tag.Try = -1 }, 0},
		{"a Txn of no kind", func(o *api.Order) { o.Txn.Kind = 0 }, 0},
		{"a Txn of another kind", func(o *api.Order) { o.Txn.Kind = api.TxMove }, 0},
		{"a run To a region", func(o *api.Order) { o.Txn.To = 1 }, 0},
		{"Ops that aren't right", func(o *api.Order) { o.Txn.Ops[2].N = 1 }, 0},
		{"keys that fall", func(o *api.Order) { slices.Reverse(o.Txn.Reads) }, 0},
		{"a key less", func(o *api.Order) { o.Txn.Reads = o.Txn.Reads[:1] }, 0},
		{"a key more", func(o *api.Order) { o.Txn.Reads = append(o.Txn.Reads, "e") }, 0},
		{"no marks", func(o *api.Order) { o.Marks = nil }, 0},
		{"a mark less", func(o *api.Order) { o.Marks = o.Marks[:3] }, 0},
		{"a mark more", func(o *api.Order) { o.Marks = append(o.Marks, api.Mark{Key: "e"}) }, 0},
		{"a mark twice", func(o *api.Order) { o.Marks = slices.Insert(o.Marks, 1, o.Marks[1]) }, 0},
		{"a mark of another key", func(o *api.Order) { o.Marks[1].Key = "bb" }, 0},
		{"a mark of no key", func(o *api.Order) { o.Marks[0].Key = "" }, 0},
		{"marks in another order", func(o *api.Order) { slices.Reverse(o.Marks) }, 0},
		{"marks as the lists are", func(o *api.Order) { o.Marks = []api.Mark{{Key: "b"}, {Key: "d"}, {Key: "a"}, {Key: "cc"}} }, 0},
		{"a Home below 0", func(o *api.Order) { o.Marks[3].Home = -1 }, 0},
		{"a Home of 3", func(o *api.Order) { o.Marks[1].Home = 3 }, 0},
		{"a Home far above", func(o *api.Order) { o.Marks[0].Home = 1 << 32 }, 0},
		{"Homes of 0 and 1", func(o *api.Order) { o.Marks[0].Home, o.Marks[3].Home = 0, 1 }, 2},
		{"Homes of 0", func(o *api.Order) { o.Marks[0].Home, o.Marks[2].Home, o.Marks[3].Home = 0, 0, 0 }, 1},
		{"Counts of 0", func(o *api.Order) { o.Marks[0].Count, o.Marks[2].Count = 0, 0 }, 3},
		{"the last Count", func(o *api.Order) { o.Marks[1].Count = 1<<64 - 1 }, 3},
	}
}

// same tells whether two orders are one.
func same(a, b api.Order) bool {
	return a.Tag == b.Tag && prog.Same(a.Txn, b.Txn) && slices.Equal(a.Marks, b.Marks)
}

// wrote gives an order's bytes by the words of the promise, of any order.
func wrote(o api.Order) []byte {
	p := &code.Pen{}
	p.Num(uint64(o.Tag.Id.Node))
	p.Num(o.Tag.Id.Epoch)
	p.Num(o.Tag.Id.Seq)
	p.Num(uint64(o.Tag.Try))
	p.Num(uint64(o.Txn.Kind))
	p.Num(uint64(o.Txn.To))
	for _, keys := range [][]string{o.Txn.Reads, o.Txn.Writes} {
		p.Num(uint64(len(keys)))
		for _, key := range keys {
			p.Text([]byte(key))
		}
	}
	p.Num(uint64(len(o.Txn.Ops)))
	for _, op := range o.Txn.Ops {
		p.Num(uint64(op.Kind))
		p.Text([]byte(op.Key))
		p.Text(op.Value)
		if op.N >= 0 {
			p.Num(uint64(op.N) + uint64(op.N))
		} else {
			p.Num(2*uint64(-1-op.N) + 1)
		}
	}
	for _, m := range o.Marks {
		p.Num(uint64(m.Home))
		p.Num(m.Count)
	}
	return p.Data()
}

// itemOf gives the item of a kind.
func itemOf(kind, index int, o api.Order) api.Item {
	return api.Item{Kind: kind, Index: index, Order: o}
}

func sameItem(a, b api.Item) bool {
	return a.Kind == b.Kind && a.Index == b.Index && same(a.Order, b.Order)
}

// wants fails, unless a call has answered what it should.
func wants(t *testing.T, call string, got, want api.Errno) {
	t.Helper()
	if got != want {
		t.Errorf("%s: %v, want %v", call, got, want)
	}
}
