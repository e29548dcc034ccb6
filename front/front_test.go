package front

import (
	"fmt"
	"math"
	"slices"
	"testing"

	"argosy/api"
)

// Chapter 21's example.
func TestExample(t *testing.T) {
	f, s := began(), scheduled(t)
	submits(t, f, 1, reading("a"))
	orders(t, f, s, orderOf(tryOf(1, 0), reading("a"), mark("a", 1, 0)))
	silent(t, f, decided(tryOf(1, 0), api.ErrStale))
	orders(t, f, s, orderOf(tryOf(1, 1), reading("a"), mark("a", 1, 0)))
	silent(t, f, decided(tryOf(1, 1), api.ErrStale))
	orders(t, f, s, orderOf(tryOf(1, 2), reading("a"), mark("a", 1, 0)))
	replies(t, f, decided(tryOf(1, 2), api.ErrStale), api.Result{Code: api.ErrTries})
	opens(t, f)
	orders(t, f, s)
}

// P21.2: the orders of all that are open, in order, by the records.
func TestOrders(t *testing.T) {
	f, s := began(), scheduled(t)
	move(t, s, "a", 0)
	move(t, s, "a", 2)
	both := api.Txn{Kind: api.TxRun, Reads: []string{"b"}, Writes: []string{"a", "c"}, Ops: []api.Op{{Kind: api.OpAdd, Key: "c", N: -5}, {Kind: api.OpEmit, Value: []byte("v")}}}
	empty := api.Txn{Kind: api.TxRun}
	submits(t, f, 1, both, moving("b", 2), empty, writing("x", "c"))
	want := []api.Order{
		orderOf(tryOf(1, 0), both, mark("a", 2, 2), mark("b", 2, 0), mark("c", 0, 0)),
		orderOf(tryOf(2, 0), moving("b", 2), mark("b", 2, 0)),
		orderOf(tryOf(3, 0), empty),
		orderOf(tryOf(4, 0), writing("x", "c"), mark("c", 0, 0)),
	}
	for range 3 {
		orders(t, f, s, want...)
	}
	finds(t, f, tryOf(2, 0), true)
	orders(t, f, s, want[0], want[2], want[3])
	replies(t, f, decided(tryOf(4, 0), api.OK), api.Result{})
	orders(t, f, s, want[0], want[2])
	replies(t, f, decided(tryOf(1, 0), api.OK), api.Result{})
	orders(t, f, s, want[2])
}

// P21.2: an order stays what it is, while the records change; that of a later one, and of a later try, is by the records as they are then.
func TestOrdersStay(t *testing.T) {
	f, s := began(), scheduled(t)
	submits(t, f, 1, reading("a"))
	first := orderOf(tryOf(1, 0), reading("a"), mark("a", 1, 0))
	orders(t, f, s, first)
	submits(t, f, 2, reading("a"))
	move(t, s, "a", 2)
	second := orderOf(tryOf(2, 0), reading("a"), mark("a", 2, 1))
	orders(t, f, s, first, second)
	silent(t, f, decided(tryOf(1, 0), api.ErrStale))
	move(t, s, "a", 0)
	next := orderOf(tryOf(1, 1), reading("a"), mark("a", 0, 2))
	orders(t, f, s, next, second)
	move(t, s, "a", 0)
	orders(t, f, s, next, second)
	silent(t, f, decided(tryOf(2, 0), api.ErrStale))
	silent(t, f, decided(tryOf(1, 1), api.ErrStale))
	orders(t, f, s, orderOf(tryOf(1, 2), reading("a"), mark("a", 0, 3)), orderOf(tryOf(2, 1), reading("a"), mark("a", 0, 3)))
}

// strange gives tags that aren't that of the try 0 of the submission 2.
func strange() []api.Tag {
	return []api.Tag{
		{},
		tagOf(3, 7, 2, 0),
		tagOf(5, 7, 2, 0),
		tagOf(-4, 7, 2, 0),
		tagOf(4, 6, 2, 0),
		tagOf(4, 8, 2, 0),
		tagOf(4, 7, 0, 0),
		tagOf(4, 7, 4, 0),
		tagOf(4, 7, math.MaxUint64, 0),
		tagOf(4, 7, 2, -1),
		tagOf(4, 7, 2, 1),
		tagOf(4, 7, 2, 2),
		tagOf(4, 7, 2, 3),
		tagOf(4, 7, 2, math.MinInt),
		tagOf(4, 7, 2, math.MaxInt),
	}
}

// codes are those that a decision may have, and some that none has.
func codes() []api.Errno {
	return []api.Errno{api.OK, api.ErrAbort, api.ErrOver, api.ErrStale, api.ErrTries, api.ErrLog, api.ErrArg, -1, 1000, math.MinInt, math.MaxInt}
}

// P21.3, P21.4: of a try that isn't a present one, whatever is told does nothing.
func TestStrangeTags(t *testing.T) {
	f, s := began(), scheduled(t)
	submits(t, f, 1, reading("a"), reading("b"), reading("c"))
	before := f.Orders(s)
	for _, tag := range strange() {
		for _, code := range codes() {
			silent(t, f, decided(tag, code, "out"))
		}
		finds(t, f, tag, false)
		opens(t, f, 1, 2, 3)
		orders(t, f, s, before...)
	}
	replies(t, f, decided(tryOf(2, 0), api.OK), api.Result{})
	for _, code := range codes() {
		silent(t, f, decided(tryOf(2, 0), code))
	}
	finds(t, f, tryOf(2, 0), false)
	opens(t, f, 1, 3)
}

// P21.3, P21.4: of a try that has no order yet nothing can be told, in each of the tries.
func TestNoOrderYet(t *testing.T) {
	for _, txn := range []api.Txn{reading("a"), {Kind: api.TxRun}} {
		f, s := began(), scheduled(t)
		submits(t, f, 1, txn)
		for try := range 3 {
			for _, code := range codes() {
				for other := range 4 {
					silent(t, f, decided(tryOf(1, other), code))
				}
			}
			for other := range 4 {
				finds(t, f, tryOf(1, other), false)
			}
			opens(t, f, 1)
			if all := f.Orders(s); len(all) != 1 || all[0].Tag != tryOf(1, try) {
				t.Fatalf("Orders: %v, want the try %d", all, try)
			}
			if try < 2 {
				silent(t, f, decided(tryOf(1, try), api.ErrStale))
			}
		}
		replies(t, f, decided(tryOf(1, 2), api.OK, "out"), decided(api.Tag{}, api.OK, "out").Result)
		opens(t, f)
	}
}

// tried gives a front of three submissions, of which the second one is in this try, and all have orders.
func tried(t *testing.T, try int) *Front {
	t.Helper()
	f, s := began(), scheduled(t)
	submits(t, f, 1, reading("a"), reading("b"), reading("c"))
	f.Orders(s)
	for i := range try {
		silent(t, f, decided(tryOf(2, i), api.ErrStale))
		f.Orders(s)
	}
	return f
}

// P21.3: each result but ErrStale is the reply, as it is, in each try.
func TestReplies(t *testing.T) {
	for try := range 3 {
		for _, code := range codes() {
			if code == api.ErrStale {
				continue
			}
			for _, outs := range [][]string{nil, {""}, {"one"}, {"one", "", "two"}} {
				d := decided(tryOf(2, try), code, outs...)
				f := tried(t, try)
				replies(t, f, d, d.Result)
				opens(t, f, 1, 3)
				silent(t, f, d)
			}
		}
		d := decided(tryOf(2, try), api.OK, "one", "two", "three")
		d.Result.Outs[0] = api.Out{}
		d.Result.Outs[2].Has = false
		replies(t, tried(t, try), d, d.Result)
	}
}

// P21.3: what is stale is tried again, but in the last try; the ErrTries then is alone.
func TestStale(t *testing.T) {
	for _, outs := range [][]string{nil, {"out"}, {"one", "two"}} {
		for try := range 2 {
			f := tried(t, try)
			silent(t, f, decided(tryOf(2, try), api.ErrStale, outs...))
			opens(t, f, 1, 2, 3)
			all := f.Orders(scheduled(t))
			if len(all) != 3 || all[0].Tag != tryOf(1, 0) || all[1].Tag != tryOf(2, try+1) || all[2].Tag != tryOf(3, 0) {
				t.Errorf("Orders: %v", all)
			}
			silent(t, f, decided(tryOf(2, try), api.ErrStale))
			silent(t, f, decided(tryOf(2, try), api.OK))
			finds(t, f, tryOf(2, try), false)
			if again := f.Orders(scheduled(t)); fmt.Sprint(again) != fmt.Sprint(all) {
				t.Errorf("Orders: %v, were %v", again, all)
			}
		}
		f := tried(t, 2)
		replies(t, f, decided(tryOf(2, 2), api.ErrStale, outs...), api.Result{Code: api.ErrTries})
		opens(t, f, 1, 3)
		silent(t, f, decided(tryOf(2, 2), api.ErrStale))
	}
}

// P21.4: a log is full for a try, in each try.
func TestFull(t *testing.T) {
	for try := range 3 {
		f := tried(t, try)
		for other := range 4 {
			if other != try {
				finds(t, f, tryOf(2, other), false)
			}
		}
		opens(t, f, 1, 2, 3)
		finds(t, f, tryOf(2, try), true)
		finds(t, f, tryOf(2, try), false)
		silent(t, f, decided(tryOf(2, try), api.OK))
		opens(t, f, 1, 3)
		finds(t, f, tryOf(3, 0), true)
		finds(t, f, tryOf(1, 0), true)
		opens(t, f)
	}
}

// P21.1 to P21.4: submissions are answered in any order; those that are left stay in theirs.
func TestAnyOrder(t *testing.T) {
	for first := uint64(1); first <= 4; first++ {
		for second := uint64(1); second <= 4; second++ {
			f, s := began(), scheduled(t)
			submits(t, f, 1, reading("a"), reading("b"), reading("c"), reading("a", "b"))
			all := f.Orders(s)
			left := []uint64{1, 2, 3, 4}
			for _, seq := range []uint64{first, second} {
				at := slices.Index(left, seq)
				if at < 0 {
					silent(t, f, decided(tryOf(seq, 0), api.OK))
					continue
				}
				replies(t, f, decided(tryOf(seq, 0), api.ErrAbort), api.Result{Code: api.ErrAbort})
				left, all = slices.Delete(left, at, at+1), slices.Delete(all, at, at+1)
			}
			opens(t, f, left...)
			orders(t, f, s, all...)
		}
	}
}

// P21.2, P21.3: what a sched decides is replied; a try that a move has made stale is tried again, under the home that the key has then.
func TestWithSched(t *testing.T) {
	f, s := began(), scheduled(t)
	add := api.Txn{Kind: api.TxRun, Writes: []string{"a"}, Ops: []api.Op{{Kind: api.OpWrite, Key: "a", Value: []byte("new")}, {Kind: api.OpRead, Key: "a"}}}
	submits(t, f, 1, moving("a", 2), add)
	told := f.Orders(s)
	made := s.Feed(1, api.Item{Kind: api.ItPiece, Order: told[0]})
	made = append(made, s.Feed(1, api.Item{Kind: api.ItRun, Order: told[1]})...)
	if len(made) != 2 {
		t.Fatalf("the decisions are %v", made)
	}
	replies(t, f, made[0], api.Result{})
	silent(t, f, made[1])
	opens(t, f, 2)
	told = f.Orders(s)
	if len(told) != 1 || fmt.Sprint(told[0]) != fmt.Sprint(orderOf(tryOf(2, 1), add, mark("a", 2, 1))) {
		t.Fatalf("Orders: %v", told)
	}
	made = s.Feed(2, api.Item{Kind: api.ItRun, Order: told[0]})
	if len(made) != 1 {
		t.Fatalf("the decisions are %v", made)
	}
	replies(t, f, made[0], decided(tryOf(2, 1), api.OK, "new").Result)
	opens(t, f)
}
