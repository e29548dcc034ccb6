package route

import (
	"bytes"
	"math"
	"slices"
	"strings"
	"testing"

	"argosy/api"
	"argosy/prog"
)

// P10.4: what is handed in isn't changed, its spare room neither.
func TestGivenIsLeft(t *testing.T) {
	s := made(t)
	x := roomy(mixed())
	marks := slices.Grow(mixedMarks(), 9)
	txnBefore, marksBefore, storeBefore := memory(x), slices.Clone(marks[:cap(marks)]), s.Snapshot()
	Marks(s, x)
	Make(s, tagOf(0, 1, 1, 0), x)
	Fits(s, api.Order{Txn: x, Marks: marks})
	if !prog.Same(memory(x), txnBefore) || !slices.Equal(marks[:cap(marks)], marksBefore) {
		t.Errorf("what was given was changed: %v, %v", memory(x), marks)
	}
	if !bytes.Equal(s.Snapshot(), storeBefore) {
		t.Error("the store was changed")
	}
	value := []byte("12345")
	Look(api.Record{Has: true, Value: value[:3], Home: 1, Count: 1}, mark("a", 1, 1))
	if string(value) != "12345" {
		t.Errorf("the value was changed: %q", value)
	}
}

// P10.4: lists that rise need not be what is handed in: they are left as they stand.
func TestGivenIsNotSorted(t *testing.T) {
	s := made(t)
	x := api.Txn{Reads: []string{"x", "a"}, Writes: []string{"m", "b", "m"}}
	Marks(s, x)
	o := Make(s, api.Tag{}, x)
	for _, got := range []api.Txn{x, o.Txn} {
		if !slices.Equal(got.Reads, []string{"x", "a"}) || !slices.Equal(got.Writes, []string{"m", "b", "m"}) {
			t.Errorf("%v", got)
		}
	}
}

// P10.4: what is handed in isn't kept.
func TestGivenIsNotKept(t *testing.T) {
	s := made(t)
	x := roomy(mixed())
	want := Make(s, tagOf(1, 2, 3, 0), mixed())
	marks, o := Marks(s, x), Make(s, tagOf(1, 2, 3, 0), x)
	spoil(x)
	moves(t, s, "a", 0)
	s.Put("b", []byte("other"))
	if !slices.Equal(marks, want.Marks) || !same(o, want) {
		t.Errorf("%v, %v, want %v", marks, o, want)
	}
}

// P10.4: answers are new memory, of each list by itself.
func TestAnswersAreNew(t *testing.T) {
	s := made(t)
	before := s.Snapshot()
	x := mixed()
	marks, kept := Marks(s, x), Marks(s, x)
	o, keptOrder := Make(s, api.Tag{}, x), Make(s, api.Tag{}, x)
	clear(marks[:cap(marks)])
	clear(o.Marks[:cap(o.Marks)])
	spoil(o.Txn)
	want := api.Order{Txn: mixed(), Marks: mixedMarks()}
	if !slices.Equal(kept, mixedMarks()) || !same(keptOrder, want) || !same(api.Order{Txn: x, Marks: kept}, want) {
		t.Errorf("answers share memory: %v, %v, %v", kept, keptOrder, x)
	}
	if !bytes.Equal(s.Snapshot(), before) || !slices.Equal(Marks(s, x), mixedMarks()) {
		t.Error("answers share memory with the store")
	}
}

// P1: calls of any arguments end.
func TestAnyArguments(t *testing.T) {
	many := make([]string, 3000)
	for i := range many {
		many[i] = strings.Repeat("k", i*7919%3000)
	}
	for _, number := range []int{math.MinInt, -1, 0, 1, 9, math.MaxInt} {
		for _, keys := range [][]string{nil, {}, {""}, {"\xff", ""}, many} {
			s := empty(t, 3)
			ops := []api.Op{{}, {Kind: number, Key: "\x00", Value: make([]byte, 999), N: math.MinInt64}}
			x := api.Txn{Kind: number, Reads: keys, Writes: keys, Ops: ops, To: number}
			o := Make(s, tagOf(number, 0, math.MaxUint64, number), x)
			if len(o.Marks) != len(Marks(s, x)) || !Fits(s, o) {
				t.Errorf("%d, %d keys: %d marks", number, len(keys), len(o.Marks))
			}
			Look(api.Record{Home: number}, mark("", -number, 0))
			Fits(s, marked(mark("", number, math.MaxUint64), mark("\xff", -number, 0)))
		}
	}
}

// P2: two runs of the same calls give the same answers, and one call twice.
func TestSameAnswers(t *testing.T) {
	s, twin := made(t), made(t)
	for _, key := range []string{"a", "m", "q", "x"} {
		x := mixed()
		first, second, other := Make(s, api.Tag{}, x), Make(s, api.Tag{}, x), Make(twin, api.Tag{}, x)
		if !same(first, second) || !same(first, other) || Fits(s, first) != Fits(twin, other) {
			t.Errorf("%v, %v, %v", first, second, other)
		}
		moves(t, s, key, 1)
		moves(t, twin, key, 1)
	}
}
