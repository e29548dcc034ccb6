package eval

import (
	"bytes"
	"slices"
	"testing"

	"argosy/api"
	"argosy/code"
	"argosy/store"
)

// made gives a store of three regions with some rows: s has a text, n a number, m one that moved, e an empty value; x moved and has none.
func made(t *testing.T) *store.Store {
	t.Helper()
	s, err := store.New(3)
	if err != api.OK {
		t.Fatal(err)
	}
	s.Put("s", []byte("text"))
	s.Put("n", Value(40))
	s.Put("m", Value(-7))
	s.Put("e", nil)
	for _, key := range []string{"m", "x", "m"} {
		if err := s.Move(key, 2); err != api.OK {
			t.Fatal(err)
		}
	}
	return s
}

// full gives a store of two regions in which one key has a Count.
func full(t *testing.T, key string, has bool, count uint64) *store.Store {
	t.Helper()
	p := &code.Pen{}
	p.Num(2)
	p.Num(1)
	p.Text([]byte(key))
	if has {
		p.Byte(1)
		p.Text([]byte("value"))
	} else {
		p.Byte(0)
		p.Text(nil)
	}
	p.Num(1)
	p.Num(count)
	s, err := store.Restore(p.Data(), 2)
	if err != api.OK {
		t.Fatal(err)
	}
	return s
}

// running gives a transaction over the keys of made, and some others.
func running(ops ...api.Op) api.Txn {
	return api.Txn{Kind: api.TxRun, Reads: []string{"r", "s"}, Writes: []string{"a", "b", "e", "m", "n", "x"}, Ops: ops}
}

func moving(key string, to int) api.Txn {
	return api.Txn{Kind: api.TxMove, Writes: []string{key}, To: to}
}

func read(key string) api.Op {
	return api.Op{Kind: api.OpRead, Key: key}
}

func write(key, value string) api.Op {
	return api.Op{Kind: api.OpWrite, Key: key, Value: []byte(value)}
}

func erase(key string) api.Op {
	return api.Op{Kind: api.OpDelete, Key: key}
}

func check(key, value string) api.Op {
	return api.Op{Kind: api.OpCheck, Key: key, Value: []byte(value)}
}

func absent(key string) api.Op {
	return api.Op{Kind: api.OpAbsent, Key: key}
}

func add(key string, n int64) api.Op {
	return api.Op{Kind: api.OpAdd, Key: key, N: n}
}

func emit(value string) api.Op {
	return api.Op{Kind: api.OpEmit, Value: []byte(value)}
}

// number gives a number's value as a text.
func number(n int64) string {
	return string(Value(n))
}

// none is an Out of a key that has no value.
func none() api.Out {
	return api.Out{}
}

func out(value string) api.Out {
	return api.Out{Has: true, Value: []byte(value)}
}

// row gives a row with a value.
func row(key, value string, home int, count uint64) api.Row {
	return api.Row{Key: key, Record: api.Record{Has: true, Value: []byte(value), Home: home, Count: count}}
}

// bare gives a row without a value.
func bare(key string, home int, count uint64) api.Row {
	return api.Row{Key: key, Record: api.Record{Home: home, Count: count}}
}

func sameOut(a, b api.Out) bool {
	return a.Has == b.Has && bytes.Equal(a.Value, b.Value)
}

func sameRow(a, b api.Row) bool {
	return a.Key == b.Key && a.Record.Has == b.Record.Has && bytes.Equal(a.Record.Value, b.Record.Value) &&
		a.Record.Home == b.Record.Home && a.Record.Count == b.Record.Count
}

func sameResult(a, b api.Result) bool {
	return a.Code == b.Code && slices.EqualFunc(a.Outs, b.Outs, sameOut)
}

// gives asks for what Run gives, and whether the store is as it was, and Apply gives it the rows and nothing else.
func gives(t *testing.T, name string, s *store.Store, txn api.Txn, want api.Result, rows ...api.Row) {
	t.Helper()
	before := s.Snapshot()
	result, writes := Run(s, txn)
	if !sameResult(result, want) || !slices.EqualFunc(writes, rows, sameRow) {
		t.Errorf("%s: %v, %v, want %v, %v", name, result, writes, want, rows)
	}
	if !bytes.Equal(s.Snapshot(), before) {
		t.Errorf("%s: Run changed the store", name)
	}
	after := s.Clone()
	Apply(after, writes)
	for _, r := range rows {
		if got := (api.Row{Key: r.Key, Record: after.Get(r.Key)}); !sameRow(got, r) {
			t.Errorf("%s: applied: %v, want %v", name, got, r)
		}
	}
	written := func(r api.Row) bool {
		return slices.ContainsFunc(rows, func(w api.Row) bool { return w.Key == r.Key })
	}
	others, same := slices.DeleteFunc(after.Rows(), written), slices.DeleteFunc(s.Rows(), written)
	if !slices.EqualFunc(others, same, sameRow) {
		t.Errorf("%s: applied, other rows are %v, were %v", name, others, same)
	}
}

func ok(outs ...api.Out) api.Result {
	return api.Result{Code: api.OK, Outs: outs}
}

func fails(err api.Errno) api.Result {
	return api.Result{Code: err}
}
