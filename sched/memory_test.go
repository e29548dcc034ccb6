package sched

import (
	"bytes"
	"fmt"
	"math"
	"slices"
	"strings"
	"testing"

	"argosy/api"
	"argosy/order"
)

// full is an order of a (at home in 1), b (in 2) and c (in 0) with all lists and values, which have spare room.
func full(seq uint64) api.Order {
	o := adding(seq, mark("a", 1, 0), mark("b", 2, 0))
	o.Txn.Reads = []string{"c"}
	o.Marks = append(o.Marks, mark("c", 0, 0))
	value := append(make([]byte, 0, 20), "value"...)
	o.Txn.Ops = append(o.Txn.Ops, api.Op{Kind: api.OpWrite, Key: "b", Value: value}, api.Op{Kind: api.OpRead, Key: "b"}, api.Op{Kind: api.OpEmit, Value: value})
	o.Txn.Reads, o.Txn.Writes = slices.Grow(o.Txn.Reads, 5), slices.Grow(o.Txn.Writes, 5)
	o.Txn.Ops, o.Marks = slices.Grow(o.Txn.Ops, 5), slices.Grow(o.Marks, 5)
	return o
}

// fullDone is the decision of full where nobody was ahead of it.
func fullDone(seq uint64) api.Decision {
	d := done(seq, 1, 1)
	value := api.Out{Has: true, Value: []byte("value")}
	d.Result.Outs = append(d.Result.Outs, value, value)
	return d
}

// memory gives all that stands in an order's lists and in their spare room, as new memory.
func memory(o api.Order) api.Order {
	o.Txn.Reads, o.Txn.Writes = o.Txn.Reads[:cap(o.Txn.Reads)], o.Txn.Writes[:cap(o.Txn.Writes)]
	o.Txn.Ops = slices.Clone(o.Txn.Ops[:cap(o.Txn.Ops)])
	for i, op := range o.Txn.Ops {
		o.Txn.Ops[i].Value = op.Value[:cap(op.Value)]
	}
	o.Marks = o.Marks[:cap(o.Marks)]
	return order.Copy(o)
}

// spoil writes over all that stands in an order's lists and in their spare room.
func spoil(o api.Order) {
	for _, op := range o.Txn.Ops {
		value := op.Value[:cap(op.Value)]
		copy(value, strings.Repeat("!", len(value)))
	}
	clear(o.Txn.Ops[:cap(o.Txn.Ops)])
	for _, keys := range [][]string{o.Txn.Reads, o.Txn.Writes} {
		clear(keys[:cap(keys)])
	}
	clear(o.Marks[:cap(o.Marks)])
}

// P17.7: what is handed in isn't changed, its spare room neither.
func TestGivenIsLeft(t *testing.T) {
	s := began(t, 3)
	o := full(1)
	before := memory(o)
	for _, region := range []int{1, 2, 0} {
		s.Feed(region, piece(0, o))
		s.Feed(region, run(o))
		s.Make(numbered(2), o.Txn)
	}
	if fmt.Sprint(memory(o)) != fmt.Sprint(before) {
		t.Errorf("the order was changed: %v, was %v", memory(o), before)
	}
	data := slices.Grow(snapshot(t, s), 9)
	kept := slices.Clone(data[:cap(data)])
	Restore(data, 3)
	Restore(data, 2)
	if !bytes.Equal(data[:cap(data)], kept) {
		t.Errorf("the bytes were changed: %v", data[:cap(data)])
	}
}

// P17.7: an order isn't kept: neither that of a piece, nor that of a run.
func TestGivenIsNotKept(t *testing.T) {
	s := began(t, 3)
	for _, region := range []int{1, 2} {
		o := full(1)
		feeds(t, s, region, piece(0, o))
		spoil(o)
	}
	behind := adding(2, mark("b", 2, 0))
	behind.Txn.Ops = []api.Op{{Kind: api.OpCheck, Key: "b", Value: []byte("value")}, {Kind: api.OpWrite, Key: "b", Value: []byte("other")}}
	feeds(t, s, 2, run(behind))
	spoil(behind)
	feeds(t, s, 2, run(adding(3, mark("b", 2, 0))))
	o := full(1)
	feeds(t, s, 0, piece(0, o), fullDone(1), done(2), failed(3, api.ErrAbort))
	spoil(o)
	other := api.Row{Key: "b", Record: api.Record{Has: true, Value: []byte("other"), Home: 2}}
	rows(t, s, row("a", 1, 1, 0), other)

	data := snapshot(t, s)
	r := restored(t, data, 3)
	clear(data[:cap(data)])
	rows(t, r, row("a", 1, 1, 0), other)
	feeds(t, r, 2, run(adding(2, mark("b", 2, 0))))
	feeds(t, r, 2, run(adding(4, mark("b", 2, 0))), failed(4, api.ErrAbort))
}

// P17.7: what Feed answers is new memory: what is done to it is seen nowhere else.
func TestDecisionsAreNew(t *testing.T) {
	for at := range 4 {
		s := began(t, 3)
		o := full(1)
		s.Feed(1, piece(0, o))
		s.Feed(2, piece(0, o))
		s.Feed(2, run(adding(3, mark("b", 2, 0))))
		s.Feed(1, piece(1, full(2)))
		got := s.Feed(0, piece(0, o))
		if want := []api.Decision{fullDone(1), failed(3, api.ErrAbort)}; fmt.Sprint(got) != fmt.Sprint(want) {
			t.Fatalf("%v, want %v", got, want)
		}
		value := got[0].Result.Outs[at].Value
		copy(value[:cap(value)], strings.Repeat("!", cap(value)))
		for i, out := range got[0].Result.Outs {
			if i != at && fmt.Sprint(out) != fmt.Sprint(fullDone(1).Result.Outs[i]) {
				t.Errorf("the values %d and %d share memory", at, i)
			}
		}
		rows(t, s, row("a", 1, 1, 0), api.Row{Key: "b", Record: api.Record{Has: true, Value: []byte("value"), Home: 2}})
		if string(o.Txn.Ops[4].Value) != "value" {
			t.Errorf("an out shares memory with an order: %q", o.Txn.Ops[4].Value)
		}
		outs := got[0].Result.Outs
		clear(outs[:cap(outs)])
		clear(got[:cap(got)])
		waits(t, s, 2)
	}
}

// P17.7: other answers are new memory, too, and stay as they were given.
func TestAnswersAreNew(t *testing.T) {
	s := began(t, 3)
	feeds(t, s, 1, run(adding(9, mark("a", 1, 0))), done(9, 1))
	one, two := snapshot(t, s), snapshot(t, s)
	clear(one[:cap(one)])
	takes(t, "an answer", two, 3)
	for seq := uint64(1); seq <= 3; seq++ {
		feeds(t, s, 1, piece(int(seq), adding(seq, mark("a", 1, 0), mark("b", 2, 0))))
	}
	waiting, ahead, records := s.Waiting(), s.Ahead(numbered(3)), s.Rows()
	others, before, again := s.Waiting(), s.Ahead(numbered(3)), s.Rows()
	clear(waiting[:cap(waiting)])
	clear(ahead[:cap(ahead)])
	clear(records[0].Record.Value)
	clear(records[:cap(records)])
	feeds(t, s, 2, piece(1, adding(1, mark("a", 1, 0), mark("b", 2, 0))), done(1, 2, 1))
	if !slices.Equal(others, numberedAll(1, 2, 3)) || !slices.Equal(before, numberedAll(1, 2)) {
		t.Errorf("%v wait, %v are ahead", others, before)
	}
	if fmt.Sprint(again) != fmt.Sprint([]api.Row{row("a", 1, 1, 0)}) {
		t.Errorf("Rows: %v", again)
	}
	waits(t, s, 2, 3)
	rows(t, s, row("a", 2, 1, 0), row("b", 1, 2, 0))
}

// P17.7: what Make answers shares no memory with its transaction.
func TestMadeIsNew(t *testing.T) {
	s := began(t, 3)
	given := full(1)
	made, other := s.Make(numbered(1), given.Txn), s.Make(numbered(1), given.Txn)
	spoil(made)
	if fmt.Sprint(given) != fmt.Sprint(full(1)) || fmt.Sprint(other) != fmt.Sprint(full(1)) {
		t.Errorf("what was made shares memory: %v, %v", given, other)
	}
	spoil(given)
	if fmt.Sprint(other) != fmt.Sprint(full(1)) {
		t.Errorf("what was handed in is kept: %v", other)
	}
}

// Rule 6: two things are by themselves.
func TestThingsAreByThemselves(t *testing.T) {
	one, two := began(t, 3), began(t, 3)
	feeds(t, one, 1, piece(0, full(1)))
	feeds(t, two, 1, run(adding(2, mark("a", 1, 0))), done(2, 1))
	waits(t, one, 1)
	waits(t, two)
	rows(t, one)
	lasts(t, two, -1, -1, -1)
}

// P2: two runs of the same calls give the same answers.
func TestSameAnswers(t *testing.T) {
	tell := func() string {
		var told strings.Builder
		next := steps(3)
		s := began(t, 3)
		for i := range 300 {
			e := thrown(s, next)
			told.WriteString(fmt.Sprint(i, s.Feed(e.region, e.item), s.Waiting(), s.Ahead(e.item.Order.Tag), s.Rows()))
			for _, other := range others(s, e) {
				told.WriteString(fmt.Sprint(s.Feed(other.region, other.item)))
			}
			data, err := s.Snapshot()
			told.WriteString(fmt.Sprint(data, err))
		}
		return told.String()
	}
	first := tell()
	for range 3 {
		if tell() != first {
			t.Error("two runs differ")
		}
	}
}

// P1: calls of any arguments end.
func TestAnyArguments(t *testing.T) {
	numbers := []int{math.MinInt, -1, 0, 1, 2, 3, 63, 64, math.MaxInt}
	long := strings.Repeat("k", 5000)
	orders := []api.Order{{}, full(1), adding(1), moving(2, 1, mark("a", 1, 0)), adding(3, mark(long, 1, 0)), {Marks: slices.Repeat([]api.Mark{mark("a", 1, 0)}, 5000)}}
	for regions := 1; regions <= 3; regions++ {
		s := began(t, regions)
		for _, a := range numbers {
			for _, b := range numbers {
				strange := moving(uint64(a), b, mark("a", a, uint64(b)))
				strange.Tag = tagOf(a, uint64(b), uint64(a), b)
				strange.Txn.Kind = b
				for _, o := range append(orders, strange) {
					s.Feed(a, api.Item{Kind: b, Index: a, Order: o})
					s.Feed(b, run(o))
					s.Feed(a, piece(b, o))
					s.Make(strange.Tag, o.Txn)
				}
				s.Fed(a)
				s.Last(b)
				s.Ahead(strange.Tag)
			}
		}
		s.Waiting()
		s.Rows()
		s.Snapshot()
	}
	for _, regions := range numbers {
		New(regions)
		for length := range 300 {
			Restore(bytes.Repeat([]byte{byte(regions), 0, 0, 255, 1}, length), regions)
			Restore(bytes.Repeat([]byte{1, 0, 0}, length), 1)
		}
	}
}
