package front

import (
	"bytes"
	"fmt"
	"slices"
	"strings"
	"testing"

	"argosy/api"
	"argosy/prog"
)

// roomy gives data with spare room behind them.
func roomy(data string) []byte {
	return append(slices.Grow([]byte(data), 20), "spare"...)[:len(data)]
}

// spoil writes over data and their spare room.
func spoil(data []byte) {
	copy(data[:cap(data)], strings.Repeat("!", cap(data)))
}

// wide gives a transaction with something in each list, and spare room behind each.
func wide() api.Txn {
	return api.Txn{
		Kind:   api.TxRun,
		Reads:  append(make([]string, 0, 4), "a", "b"),
		Writes: append(make([]string, 0, 4), "c", "d"),
		Ops: append(make([]api.Op, 0, 4),
			api.Op{Kind: api.OpWrite, Key: "c", Value: roomy("first")},
			api.Op{Kind: api.OpEmit, Value: roomy("second")},
			api.Op{Kind: api.OpAdd, Key: "d", N: 5},
		),
	}
}

// spoilTxn writes over all lists of a transaction, and their spare room.
func spoilTxn(t api.Txn) {
	for _, op := range t.Ops {
		spoil(op.Value)
	}
	clear(t.Reads[:cap(t.Reads)])
	clear(t.Writes[:cap(t.Writes)])
	clear(t.Ops[:cap(t.Ops)])
}

// spoilOrders writes over all that is in orders.
func spoilOrders(orders []api.Order) {
	for _, o := range orders {
		spoilTxn(o.Txn)
		clear(o.Marks[:cap(o.Marks)])
	}
	clear(orders[:cap(orders)])
}

// wideOrder gives the order of a try of a wide transaction, at the beginning.
func wideOrder(tag api.Tag) api.Order {
	return orderOf(tag, wide(), mark("a", 1, 0), mark("b", 2, 0), mark("c", 0, 0), mark("d", 1, 0))
}

// P21.5: a transaction isn't changed, its spare room neither, whatever is done with the orders; it may be written over.
func TestTxn(t *testing.T) {
	f, s, txn := began(), scheduled(t), wide()
	before := fmt.Sprint(spare(txn))
	submits(t, f, 1, txn, txn)
	for try := range 3 {
		spoilOrders(f.Orders(s))
		if try < 2 {
			silent(t, f, decided(tryOf(1, try), api.ErrStale))
		}
	}
	if after := fmt.Sprint(spare(txn)); after != before {
		t.Errorf("a transaction was changed: %s, was %s", after, before)
	}
	f = began()
	submits(t, f, 1, txn, txn)
	spoilTxn(txn)
	orders(t, f, s, wideOrder(tryOf(1, 0)), wideOrder(tryOf(2, 0)))
}

// spare gives all that a transaction's lists have, in their spare room, too.
func spare(t api.Txn) api.Txn {
	t = api.Txn{Kind: t.Kind, To: t.To, Reads: t.Reads[:cap(t.Reads)], Writes: t.Writes[:cap(t.Writes)], Ops: slices.Clone(t.Ops[:cap(t.Ops)])}
	for i, op := range t.Ops {
		t.Ops[i].Value = op.Value[:cap(op.Value)]
	}
	return t
}

// P21.5: orders are new memory: those of two answers, and of two submissions, and those that the next try goes on with.
func TestOrdersAreNew(t *testing.T) {
	f, s := began(), scheduled(t)
	submits(t, f, 1, wide(), wide())
	one, two := wideOrder(tryOf(1, 0)), wideOrder(tryOf(2, 0))
	spoilOrders(f.Orders(s))
	orders(t, f, s, one, two)
	got, other := f.Orders(s), f.Orders(s)
	spoilOrders(got)
	if fmt.Sprint(other) != fmt.Sprint([]api.Order{one, two}) {
		t.Errorf("two answers share memory: %v", other)
	}
	spoilOrders(other[:1])
	if got := f.Orders(s); fmt.Sprint(got) != fmt.Sprint([]api.Order{one, two}) {
		t.Errorf("an answer is kept: %v", got)
	}
	got = f.Orders(s)
	spoilOrders(slices.Clone(got[:1]))
	if fmt.Sprint(got[1]) != fmt.Sprint(two) {
		t.Errorf("two orders share memory: %v", got[1])
	}
	got = f.Orders(s)
	silent(t, f, decided(tryOf(1, 0), api.ErrStale))
	spoilOrders(f.Orders(s))
	if fmt.Sprint(got) != fmt.Sprint([]api.Order{one, two}) {
		t.Errorf("an answer goes on with the front: %v", got)
	}
	orders(t, f, s, wideOrder(tryOf(1, 1)), two)
}

// P21.5: the sched isn't changed.
func TestSchedIsLeft(t *testing.T) {
	f, s := began(), scheduled(t)
	move(t, s, "a", 2)
	before, err := s.Snapshot()
	if err != api.OK {
		t.Fatal(err)
	}
	submits(t, f, 1, wide(), moving("a", 0), writing("x", "a"))
	for try := range 2 {
		f.Orders(s)
		silent(t, f, decided(tryOf(2, try), api.ErrStale))
	}
	after, err := s.Snapshot()
	if err != api.OK || !bytes.Equal(after, before) || len(s.Waiting()) > 0 {
		t.Errorf("the sched was changed: %v, %v, was %v", after, err, before)
	}
}

// P21.5: a decision isn't changed, and isn't kept: the reply is new memory.
func TestReplyIsNew(t *testing.T) {
	outs := append(make([]api.Out, 0, 4), api.Out{Has: true, Value: roomy("one")}, api.Out{Has: true, Value: roomy("two")})
	want := fmt.Sprint(outs)
	for at := range 2 {
		f := tried(t, 1)
		d := api.Decision{Tag: tryOf(2, 1), Result: api.Result{Outs: outs}}
		reply, ok := f.Decide(d)
		if !ok || fmt.Sprint(reply.Result.Outs) != want {
			t.Fatalf("Decide: %v, %v", reply, ok)
		}
		spoil(reply.Result.Outs[at].Value)
		if other := reply.Result.Outs[1-at].Value; !bytes.Equal(other, outs[1-at].Value) {
			t.Errorf("two outs share memory: %q", other)
		}
		got := reply.Result.Outs
		clear(got[:cap(got)])
		for i, out := range outs[:cap(outs)] {
			if i < 2 && string(out.Value[:cap(out.Value)][3:8]) != "spare" || i >= 2 && (out.Has || out.Value != nil) {
				t.Errorf("the spare room of what was handed in has changed: %v", out)
			}
		}
		if fmt.Sprint(outs) != want {
			t.Errorf("what was handed in has changed: %v", outs)
		}
	}
}

// P21.5: a reply stays as it is, when what was handed in is written over.
func TestReplyStays(t *testing.T) {
	f := tried(t, 0)
	d := decided(tryOf(2, 0), api.OK, "one", "two")
	want := fmt.Sprint(decided(tryOf(2, 0), api.OK, "one", "two").Result)
	reply, ok := f.Decide(d)
	for i := range d.Result.Outs {
		spoil(d.Result.Outs[i].Value)
		d.Result.Outs[i] = api.Out{}
	}
	if !ok || fmt.Sprint(reply.Result) != want {
		t.Errorf("a reply shares memory with what was handed in: %v", reply)
	}
}

// P21.5: the open ones' list is new memory.
func TestOpenIsNew(t *testing.T) {
	f := tried(t, 0)
	got, other := f.Open(), f.Open()
	clear(got[:cap(got)])
	if !slices.Equal(other, []api.Id{idOf(1), idOf(2), idOf(3)}) {
		t.Errorf("two answers share memory: %v", other)
	}
	opens(t, f, 1, 2, 3)
	finds(t, f, tryOf(1, 0), true)
	if !slices.Equal(other, []api.Id{idOf(1), idOf(2), idOf(3)}) {
		t.Errorf("an answer goes on with the front: %v", other)
	}
}

// Nothing is kept of submissions that were answered.
func TestAnsweredIsGone(t *testing.T) {
	f := tried(t, 1)
	replies(t, f, decided(tryOf(2, 1), api.OK), api.Result{})
	finds(t, f, tryOf(1, 0), true)
	for _, e := range f.open[len(f.open):cap(f.open)] {
		if !prog.Same(e.order.Txn, api.Txn{}) || len(e.order.Marks) > 0 {
			t.Errorf("%v is kept", e.order)
		}
	}
}

// Rule 6: two fronts are by themselves.
func TestThingsAreByThemselves(t *testing.T) {
	one, two, s := began(), began(), scheduled(t)
	submits(t, one, 1, reading("a"), reading("b"))
	opens(t, two)
	submits(t, two, 1, reading("c"))
	one.Orders(s)
	silent(t, two, decided(tryOf(1, 0), api.OK))
	orders(t, two, s, orderOf(tryOf(1, 0), reading("c"), mark("c", 0, 0)))
	finds(t, one, tryOf(1, 0), true)
	opens(t, two, 1)
	opens(t, one, 2)
}

// P2: two runs of the same calls give the same answers.
func TestSameAnswers(t *testing.T) {
	run := func() string {
		var told strings.Builder
		next, all := steps(7), scheds(t, 3)
		f, m := began(), &model{}
		for range 300 {
			got, _ := thrown(next, m, all, 10).do(f, m)
			told.WriteString(got)
		}
		return told.String()
	}
	first := run()
	for range 3 {
		if run() != first {
			t.Error("two runs differ")
		}
	}
}
