package route

import (
	"slices"
	"testing"

	"argosy/api"
	"argosy/code"
	"argosy/prog"
	"argosy/store"
)

// made gives a store of three regions: b has a value, m one and has moved twice, x has moved and has none. All else is as at the beginning.
func made(t *testing.T) *store.Store {
	t.Helper()
	s := empty(t, 3)
	s.Put("b", []byte("value"))
	s.Put("m", []byte("moved"))
	moves(t, s, "m", 2)
	moves(t, s, "x", 1)
	moves(t, s, "m", 0)
	return s
}

// empty gives a store in which all keys are as at the beginning.
func empty(t *testing.T, regions int) *store.Store {
	t.Helper()
	s, err := store.New(regions)
	if err != api.OK {
		t.Fatal(err)
	}
	return s
}

// counted gives a store of three regions in which the key k has this Home and this Count, and no value.
func counted(t *testing.T, home int, count uint64) *store.Store {
	t.Helper()
	p := &code.Pen{}
	p.Num(3)
	p.Num(1)
	p.Text([]byte("k"))
	p.Byte(0)
	p.Text(nil)
	p.Num(uint64(home))
	p.Num(count)
	s, err := store.Restore(p.Data(), 3)
	if err != api.OK {
		t.Fatal(err)
	}
	return s
}

func moves(t *testing.T, s *store.Store, key string, home int) {
	t.Helper()
	if err := s.Move(key, home); err != api.OK {
		t.Fatalf("Move(%q, %d): %v", key, home, err)
	}
}

// mixed gives a transaction whose reads and writes stand between each other, as new memory.
func mixed() api.Txn {
	return api.Txn{
		Kind:   api.TxRun,
		Reads:  []string{"b", "m"},
		Writes: []string{"a", "c", "x"},
		Ops: []api.Op{
			{Kind: api.OpWrite, Key: "a", Value: []byte("new")},
			{Kind: api.OpRead, Key: "m"},
			{Kind: api.OpAdd, Key: "x", N: -5},
		},
	}
}

// mixedMarks are those of mixed in a store as made gives it.
func mixedMarks() []api.Mark {
	return []api.Mark{mark("a", 1, 0), mark("b", 2, 0), mark("c", 0, 0), mark("m", 0, 2), mark("x", 1, 1)}
}

func mark(key string, home int, count uint64) api.Mark {
	return api.Mark{Key: key, Home: home, Count: count}
}

func reading(keys ...string) api.Txn {
	return api.Txn{Kind: api.TxRun, Reads: keys}
}

func tagOf(node int, epoch, seq uint64, try int) api.Tag {
	return api.Tag{Id: api.Id{Node: node, Epoch: epoch, Seq: seq}, Try: try}
}

// marked gives an order of these marks.
func marked(marks ...api.Mark) api.Order {
	return api.Order{Marks: marks}
}

// same tells whether two orders are one.
func same(a, b api.Order) bool {
	return a.Tag == b.Tag && prog.Same(a.Txn, b.Txn) && slices.Equal(a.Marks, b.Marks)
}

// roomy gives a transaction's lists spare room.
func roomy(x api.Txn) api.Txn {
	x.Reads, x.Writes, x.Ops = slices.Grow(x.Reads, 9), slices.Grow(x.Writes, 9), slices.Grow(x.Ops, 9)
	for i := range x.Ops {
		x.Ops[i].Value = slices.Grow(x.Ops[i].Value, 9)
	}
	return x
}

// memory gives all that stands in a transaction's lists and in their spare room, as new memory.
func memory(x api.Txn) api.Txn {
	x.Reads, x.Writes = x.Reads[:cap(x.Reads)], x.Writes[:cap(x.Writes)]
	x.Ops = slices.Clone(x.Ops[:cap(x.Ops)])
	for i, op := range x.Ops {
		x.Ops[i].Value = op.Value[:cap(op.Value)]
	}
	return prog.Copy(x)
}

// spoil writes over all that stands in a transaction's lists and in their spare room.
func spoil(x api.Txn) {
	for _, op := range x.Ops {
		clear(op.Value[:cap(op.Value)])
	}
	clear(x.Ops[:cap(x.Ops)])
	for _, keys := range [][]string{x.Reads, x.Writes} {
		clear(keys[:cap(keys)])
	}
}
