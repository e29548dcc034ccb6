package eval

import (
	"bytes"
	"math"
	"slices"
	"strings"
	"testing"

	"argosy/api"
	"argosy/prog"
	"argosy/store"
)

// steps is a row of numbers that looks thrown, and is the same in each run.
func steps(seed uint64) func(below int) int {
	return func(below int) int {
		seed = seed*6364136223846793005 + 1442695040888963407
		return int(seed>>33) % below
	}
}

// thrown gives a transaction over few keys, right for three regions.
func thrown(next func(int) int) api.Txn {
	keys := []string{"a", "b", "c"}
	if next(5) == 0 {
		return moving(keys[next(3)], next(3))
	}
	txn := api.Txn{Kind: api.TxRun, Reads: []string{"r"}, Writes: keys}
	values := []string{"", "v", number(1), number(math.MaxInt64)}
	for range next(9) {
		key, value := keys[next(3)], values[next(4)]
		ops := []api.Op{read(key), read("r"), write(key, value), erase(key), check(key, value), absent(key), add(key, int64(next(4)-2)), emit(value)}
		txn.Ops = append(txn.Ops, ops[next(len(ops))])
	}
	return txn
}

// applied does a transaction in the store itself, by the words of the promise.
func applied(s *store.Store, txn api.Txn) api.Result {
	if txn.Kind == api.TxMove {
		return api.Result{Code: s.Move(txn.Writes[0], txn.To)}
	}
	var outs []api.Out
	for _, op := range txn.Ops {
		r := s.Get(op.Key)
		switch op.Kind {
		case api.OpRead:
			outs = append(outs, api.Out{Has: r.Has, Value: r.Value})
		case api.OpWrite:
			s.Put(op.Key, op.Value)
		case api.OpDelete:
			s.Delete(op.Key)
		case api.OpCheck:
			if !r.Has || string(r.Value) != string(op.Value) {
				return fails(api.ErrAbort)
			}
		case api.OpAbsent:
			if r.Has {
				return fails(api.ErrAbort)
			}
		case api.OpAdd:
			n, is := Number(r.Value)
			if r.Has && !is {
				return fails(api.ErrAbort)
			}
			if op.N > 0 && n > math.MaxInt64-op.N || op.N < 0 && n < math.MinInt64-op.N {
				return fails(api.ErrOver)
			}
			s.Put(op.Key, Value(n+op.N))
		case api.OpEmit:
			outs = append(outs, out(string(op.Value)))
		}
	}
	return ok(outs...)
}

// P7.2 to P7.5: many transactions, held against ones that are done in the store itself.
func TestAsModel(t *testing.T) {
	next := steps(3)
	s, _ := store.New(3)
	codes := map[api.Errno]int{}
	for i := range 5000 {
		txn := thrown(next)
		other := s.Clone()
		want := applied(other, txn)
		before := s.Snapshot()
		got, writes := Run(s, txn)
		if !sameResult(got, want) || !bytes.Equal(s.Snapshot(), before) {
			t.Fatalf("%d: %v: %v, want %v", i, txn, got, want)
		}
		Apply(s, writes)
		if want.Code != api.OK && (len(writes) > 0 || !bytes.Equal(s.Snapshot(), before)) {
			t.Fatalf("%d: %v: %v beside %v", i, txn, writes, got)
		}
		if want.Code == api.OK && !bytes.Equal(s.Snapshot(), other.Snapshot()) {
			t.Fatalf("%d: %v: %v, want %v", i, txn, s.Rows(), other.Rows())
		}
		codes[want.Code]++
	}
	if codes[api.OK] < 100 || codes[api.ErrAbort] < 100 || codes[api.ErrOver] < 10 {
		t.Errorf("results: %v", codes)
	}
}

// P2: two runs of the same calls give the same answers.
func TestSameAnswers(t *testing.T) {
	run := func() []byte {
		next := steps(4)
		s, _ := store.New(3)
		for range 300 {
			_, writes := Run(s, thrown(next))
			Apply(s, writes)
		}
		return s.Snapshot()
	}
	if !bytes.Equal(run(), run()) {
		t.Error("two runs differ")
	}
}

// P7.5: of rows of several keys, and of none.
func TestApply(t *testing.T) {
	s := made(t)
	before := s.Snapshot()
	Apply(s, nil)
	Apply(s, []api.Row{})
	if !bytes.Equal(s.Snapshot(), before) {
		t.Error("Apply of nothing changed the store")
	}
	_, writes := Run(s, running(write("a", "v"), erase("n"), add("m", 8)))
	Apply(s, writes)
	want := []api.Row{row("a", "v", 1, 0), row("e", "", 2, 0), row("m", number(1), 2, 2), row("s", "text", 1, 0), bare("x", 2, 1)}
	if got := s.Rows(); !slices.EqualFunc(got, want, sameRow) {
		t.Errorf("%v, want %v", got, want)
	}
	_, writes = Run(s, moving("a", 1))
	Apply(s, writes)
	want[0] = row("a", "v", 1, 1)
	if got := s.Rows(); !slices.EqualFunc(got, want, sameRow) {
		t.Errorf("%v, want %v", got, want)
	}
}

// roomy gives bytes with spare room behind them, in which something stands.
func roomy(value string) []byte {
	return []byte(value + "spare")[:len(value)]
}

// P7.6: what is handed in isn't changed, its spare room neither, and isn't kept.
func TestGivenMemory(t *testing.T) {
	s := made(t)
	txn := running(write("a", ""), emit(""), check("s", ""), add("n", 1), read("a"))
	txn.Ops[0].Value, txn.Ops[1].Value, txn.Ops[2].Value = roomy("value"), roomy("out"), roomy("text")
	before := prog.Copy(txn)
	result, writes := Run(s, txn)
	if !prog.Same(txn, before) {
		t.Errorf("Run changed what it was given: %v, was %v", txn, before)
	}
	for _, op := range txn.Ops[:3] {
		whole := op.Value[:len(op.Value)+5]
		if string(whole[len(op.Value):]) != "spare" {
			t.Errorf("Run wrote into spare room: %q", whole)
		}
		clear(whole)
	}
	clear(txn.Ops)
	clear(txn.Writes)
	rows := []api.Row{row("a", "value", 1, 0), row("n", number(41), 2, 0)}
	if !sameResult(result, ok(out("out"), out("value"))) || !slices.EqualFunc(writes, rows, sameRow) {
		t.Errorf("what was given is kept: %v, %v", result, writes)
	}
	Apply(s, writes)
	if !slices.EqualFunc(writes, rows, sameRow) {
		t.Errorf("Apply changed what it was given: %v", writes)
	}
	for _, w := range writes {
		clear(w.Record.Value[:cap(w.Record.Value)])
	}
	if got := s.Get("a"); string(got.Value) != "value" {
		t.Errorf("Apply keeps what it was given: %v", got)
	}
}

// P7.6: answers are new memory, each list by itself.
func TestAnsweredMemory(t *testing.T) {
	s := made(t)
	txn := running(write("a", "one"), read("a"), read("a"), read("s"), read("s"), write("b", "two"), emit("two"), add("n", 1), read("n"))
	want := []string{"one", "one", "text", "text", "two", number(41)}
	rows := []string{"one", "two", number(41)}
	for spoilt := range len(want) + len(rows) {
		result, writes := Run(s, txn)
		for i, value := range append(outsOf(result), valuesOf(writes)...) {
			if i == spoilt {
				clear(value[:cap(value)])
			}
		}
		for i, value := range append(outsOf(result), valuesOf(writes)...) {
			if all := append(slices.Clone(want), rows...); i != spoilt && string(value) != all[i] {
				t.Errorf("lists %d and %d share memory: %q", spoilt, i, value)
			}
		}
		if got := s.Get("s"); string(got.Value) != "text" {
			t.Errorf("an answer shares memory with the store: %v", got)
		}
	}
	_, writes := Run(s, moving("s", 2))
	clear(writes[0].Record.Value)
	if got := s.Get("s"); string(got.Value) != "text" {
		t.Errorf("a move's row shares memory with the store: %v", got)
	}
}

func outsOf(r api.Result) [][]byte {
	var values [][]byte
	for _, o := range r.Outs {
		values = append(values, o.Value)
	}
	return values
}

func valuesOf(rows []api.Row) [][]byte {
	var values [][]byte
	for _, r := range rows {
		values = append(values, r.Record.Value)
	}
	return values
}

// P1, P7.4: of any transaction Run ends, and changes nothing; so does Apply of any rows.
func TestAnyArguments(t *testing.T) {
	s := made(t)
	before := s.Snapshot()
	long := strings.Repeat("x", 5000)
	ops := []api.Op{{}, {Kind: math.MinInt, N: math.MinInt64}, {Kind: math.MaxInt, Key: long, Value: []byte(long)}}
	for kind := range 10 {
		ops = append(ops, api.Op{Kind: kind, Key: "undeclared", N: 5}, api.Op{Kind: kind, Value: []byte(long), N: math.MaxInt64})
	}
	for kind := -2; kind < 5; kind++ {
		for _, txn := range []api.Txn{
			{},
			{Reads: []string{"a"}},
			{Writes: []string{"a"}, To: math.MinInt},
			{Writes: []string{"a"}, To: math.MaxInt},
			{Writes: []string{"a", "b"}, Ops: ops},
			{Reads: make([]string, 99), Writes: make([]string, 99), Ops: ops},
			{Ops: ops},
			{Ops: make([]api.Op, 99)},
		} {
			txn.Kind = kind
			Run(s, txn)
			for _, op := range ops {
				txn.Ops = []api.Op{op}
				Run(s, txn)
			}
		}
	}
	if !bytes.Equal(s.Snapshot(), before) {
		t.Error("Run changed the store")
	}
	_, writes := Run(full(t, "k", true, 1), moving("k", 2))
	Apply(full(t, "k", true, 1), writes)
	for _, home := range []int{math.MinInt, -1, 0, 3, math.MaxInt} {
		for _, count := range []uint64{0, 1, 2, math.MaxUint64} {
			Apply(s, []api.Row{row("a", long, home, count), bare("m", home, count), bare(long, home, count), {}})
		}
	}
}
