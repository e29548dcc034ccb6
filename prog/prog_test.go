package prog

import (
	"math"
	"slices"
	"strings"
	"testing"

	"argosy/api"
)

// whole gives a transaction with something in each of its fields, as new memory.
func whole() api.Txn {
	return api.Txn{
		Kind:   api.TxRun,
		Reads:  []string{"b", "d"},
		Writes: []string{"a", "c"},
		Ops: []api.Op{
			{Kind: api.OpWrite, Key: "a", Value: []byte("value")},
			{Kind: api.OpAdd, Key: "c", N: -5},
			{Kind: api.OpRead, Key: "b"},
		},
		To: 1,
	}
}

// P5.2: rising, each once, also of transactions that aren't right.
func TestKeys(t *testing.T) {
	long := strings.Repeat("z", 99)
	for _, c := range []struct{ reads, writes, want []string }{
		{nil, nil, nil},
		{[]string{}, []string{}, nil},
		{[]string{"b"}, nil, []string{"b"}},
		{nil, []string{"b"}, []string{"b"}},
		{[]string{"b", "d"}, []string{"a", "c"}, []string{"a", "b", "c", "d"}},
		{[]string{"a", "b"}, []string{"a", "b"}, []string{"a", "b"}},
		{[]string{"d", "a", "a"}, []string{"c", "d", "b", "b"}, []string{"a", "b", "c", "d"}},
		{[]string{"ab", "\xff"}, []string{"a", "", "B", long}, []string{"", "B", "a", "ab", long, "\xff"}},
	} {
		for kind := -1; kind < 4; kind++ {
			txn := api.Txn{Kind: kind, Reads: c.reads, Writes: c.writes}
			if got := Keys(txn); !slices.Equal(got, c.want) {
				t.Errorf("Keys of %q and %q: %q, want %q", c.reads, c.writes, got, c.want)
			}
		}
	}
}

// P5.2
func TestWrites(t *testing.T) {
	txn := api.Txn{Reads: []string{"b", "c"}, Writes: []string{"z", "a", "", "a"}}
	for key, want := range map[string]bool{"a": true, "z": true, "": true, "b": false, "c": false, "aa": false, "A": false} {
		for kind := -1; kind < 4; kind++ {
			txn.Kind = kind
			if got := Writes(txn, key); got != want {
				t.Errorf("Writes(%q): %v, want %v", key, got, want)
			}
		}
	}
	if Writes(api.Txn{}, "") || Writes(api.Txn{Reads: []string{""}}, "") {
		t.Error("Writes of none")
	}
}

// P5.3: each field plays its part in what is the same.
func TestSame(t *testing.T) {
	for name, other := range map[string]func(*api.Txn){
		"Kind":             func(x *api.Txn) { x.Kind = api.TxMove },
		"To":               func(x *api.Txn) { x.To = 2 },
		"Reads":            func(x *api.Txn) { x.Reads[1] = "e" },
		"fewer Reads":      func(x *api.Txn) { x.Reads = x.Reads[:1] },
		"more Reads":       func(x *api.Txn) { x.Reads = append(x.Reads, "") },
		"no Reads":         func(x *api.Txn) { x.Reads = nil },
		"Reads' order":     func(x *api.Txn) { slices.Reverse(x.Reads) },
		"Writes":           func(x *api.Txn) { x.Writes[0] = "A" },
		"fewer Writes":     func(x *api.Txn) { x.Writes = x.Writes[:1] },
		"more Writes":      func(x *api.Txn) { x.Writes = append(x.Writes, "") },
		"Writes' order":    func(x *api.Txn) { slices.Reverse(x.Writes) },
		"Reads and Writes": func(x *api.Txn) { x.Reads, x.Writes = x.Writes, x.Reads },
		"fewer Ops":        func(x *api.Txn) { x.Ops = x.Ops[:2] },
		"more Ops":         func(x *api.Txn) { x.Ops = append(x.Ops, api.Op{}) },
		"no Ops":           func(x *api.Txn) { x.Ops = nil },
		"Ops' order":       func(x *api.Txn) { slices.Reverse(x.Ops) },
		"an Op's Kind":     func(x *api.Txn) { x.Ops[2].Kind = api.OpAbsent },
		"an Op's Key":      func(x *api.Txn) { x.Ops[2].Key = "d" },
		"an Op's Value":    func(x *api.Txn) { x.Ops[0].Value[4] = 'E' },
		"an Op's no Value": func(x *api.Txn) { x.Ops[0].Value = nil },
		"an Op's longer":   func(x *api.Txn) { x.Ops[0].Value = []byte("value\x00") },
		"an Op's N":        func(x *api.Txn) { x.Ops[1].N = 5 },
	} {
		x := whole()
		other(&x)
		if Same(whole(), x) || Same(x, whole()) {
			t.Errorf("the same, but for %s", name)
		}
		if !Same(x, Copy(x)) || !Same(Copy(x), x) {
			t.Errorf("%s: the copy is another one", name)
		}
	}
	if !Same(whole(), whole()) || !Same(api.Txn{}, api.Txn{}) {
		t.Error("not the same as itself")
	}
}

// P5.3: a nil list is as one without elements.
func TestSameOfNil(t *testing.T) {
	empty := api.Txn{Reads: []string{}, Writes: []string{}, Ops: []api.Op{}}
	valued := api.Txn{Ops: []api.Op{{Kind: api.OpEmit, Value: []byte{}}}}
	valueless := api.Txn{Ops: []api.Op{{Kind: api.OpEmit}}}
	for _, c := range [][2]api.Txn{{empty, {}}, {valued, valueless}} {
		if !Same(c[0], c[1]) || !Same(c[1], c[0]) || !Same(Copy(c[0]), c[1]) || !Same(c[0], Copy(c[1])) {
			t.Errorf("%v, %v", c[0], c[1])
		}
	}
}

// roomy gives a transaction's lists spare room, in which something stands.
func roomy(x api.Txn) api.Txn {
	x.Reads = append(x.Reads, "y", "y")[:len(x.Reads)]
	x.Writes = append(x.Writes, "y", "y")[:len(x.Writes)]
	x.Ops = append(x.Ops, api.Op{Kind: 9}, api.Op{Kind: 9})[:len(x.Ops)]
	for i, op := range x.Ops {
		x.Ops[i].Value = append(op.Value, 9, 9)[:len(op.Value)]
	}
	return x
}

// spareIsLeft tells whether the spare room is as roomy gave it.
func spareIsLeft(x api.Txn) bool {
	left := slices.Equal(x.Reads[len(x.Reads):][:2], []string{"y", "y"}) &&
		slices.Equal(x.Writes[len(x.Writes):][:2], []string{"y", "y"}) &&
		x.Ops[len(x.Ops):][:2][0].Kind == 9 && x.Ops[len(x.Ops):][:2][1].Kind == 9
	for _, op := range x.Ops {
		left = left && slices.Equal(op.Value[len(op.Value):][:2], []byte{9, 9})
	}
	return left
}

// spoil writes over all of a transaction's lists, the spare room too.
func spoil(x api.Txn) {
	for _, op := range x.Ops[:cap(x.Ops)] {
		clear(op.Value[:cap(op.Value)])
	}
	clear(x.Reads[:cap(x.Reads)])
	clear(x.Writes[:cap(x.Writes)])
	clear(x.Ops[:cap(x.Ops)])
}

// P5.4: what is handed in isn't changed, the spare room neither.
func TestGivenMemory(t *testing.T) {
	x := roomy(whole())
	x.To = 0
	if err := Check(x, 3); err != api.OK {
		t.Error(err)
	}
	x.Reads[0], x.Writes[0] = "z", "z"
	before := Copy(x)
	Check(x, 3)
	Keys(x)
	Writes(x, "a")
	Copy(x)
	Same(x, x)
	if !Same(x, before) || !spareIsLeft(x) {
		t.Errorf("%v, was %v", x, before)
	}
}

// P5.3, P5.4: a copy is new memory, of each list by itself.
func TestCopyMemory(t *testing.T) {
	x := roomy(whole())
	first, second := Copy(x), Copy(x)
	spoil(first)
	if !Same(x, whole()) || !spareIsLeft(x) || !Same(second, whole()) {
		t.Errorf("a copy shares memory: %v, %v", x, second)
	}
	spoil(x)
	if !Same(second, whole()) {
		t.Errorf("a copy is kept elsewhere: %v", second)
	}
	value := []byte("one")
	shared := Copy(api.Txn{Ops: []api.Op{{Value: value}, {Value: value}}})
	clear(shared.Ops[0].Value)
	if string(shared.Ops[1].Value) != "one" || string(value) != "one" {
		t.Error("two values of a copy share memory")
	}
}

// P5.4: Keys are new memory, also where there is only one list.
func TestKeysMemory(t *testing.T) {
	for _, x := range []api.Txn{
		{Reads: []string{"b", "c"}},
		{Writes: []string{"b", "c"}},
		{Reads: []string{"b"}, Writes: []string{"c"}},
	} {
		before := Copy(x)
		first, second := Keys(x), Keys(x)
		clear(first[:cap(first)])
		if !slices.Equal(second, []string{"b", "c"}) || !Same(x, before) {
			t.Errorf("%v: %q", x, second)
		}
	}
}

// P1: calls of any transaction end.
func TestAnyTransaction(t *testing.T) {
	ops := []api.Op{{}, {Kind: math.MinInt, N: math.MinInt64}, {Kind: math.MaxInt, Key: "\xff", Value: make([]byte, 999), N: math.MaxInt64}}
	for _, x := range []api.Txn{
		{},
		{Kind: math.MinInt, To: math.MinInt, Ops: ops},
		{Kind: math.MaxInt, To: math.MaxInt, Reads: make([]string, 999), Writes: make([]string, 999)},
		{Kind: api.TxRun, Ops: ops},
		{Kind: api.TxMove, Writes: make([]string, 1), To: math.MaxInt},
	} {
		for _, regions := range []int{math.MinInt, -1, 0, 1, 3, math.MaxInt} {
			if got := Check(x, regions); got != api.ErrArg {
				t.Errorf("%v: %v", x, got)
			}
		}
		if n := len(Keys(x)); n > 1 {
			t.Errorf("%d keys", n)
		}
		Writes(x, "")
		if !Same(Copy(x), x) {
			t.Errorf("%v: the copy is another one", x)
		}
	}
}
