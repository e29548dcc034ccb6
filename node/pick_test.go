package node

import (
	"math"
	"testing"

	"argosy/api"
	"argosy/code"
	"argosy/durable"
	"argosy/sched"
)

// P23.2: Submit is layer 21's, and Pending its Open.
func TestSubmit(t *testing.T) {
	n := opened(t, votersDisk(t), 3, 2, 3)
	for _, bad := range []api.Txn{{}, moving("a", 2), moving("a", -1), writing("x", "b", "a"), {Kind: 3}} {
		id, err := n.Submit(bad)
		same(t, "Id", id, api.Id{})
		wants(t, "Submit", err, api.ErrArg)
	}
	var ids []api.Id
	for seq := range uint64(64) {
		id := submits(t, n, moving("a", 1))
		same(t, "Id", id, api.Id{Node: 3, Epoch: 1, Seq: seq + 1})
		ids = append(ids, id)
		same(t, "Pending", n.Pending(), ids)
	}
	_, err := n.Submit(moving("a", 1))
	wants(t, "Submit", err, api.ErrFull)
	same(t, "Out", n.Out(), []api.Parcel{})
}

// P23.8: Pick says false, where there is no region, or no entry that is known behind those that were fed.
func TestPick(t *testing.T) {
	_, n, o := played(t, 1, 2, 3)
	one, two := orderOf(t, 2, tagOf(4, 1), writing("x", "b")), orderOf(t, 2, tagOf(4, 2), writing("y", "a"))
	o.say(chosen(3, 0, 1, run(t, one)), chosen(3, 2, 0, run(t, one)))
	for _, region := range []int{math.MinInt, -1, 0, 1, 2, 3, math.MaxInt} {
		same(t, "Pick", n.Pick(region), false)
	}
	o.say(chosen(3, 1, 0, run(t, two)))
	same(t, "Pick", n.Pick(0), false)
	same(t, "Pick", n.Pick(1), true)
	same(t, "Pick", n.Pick(1), false)
	same(t, "Fed", []int{n.Fed(-1), n.Fed(0), n.Fed(1), n.Fed(2)}, []int{0, 0, 1, 0})
	o.say(chosen(3, 0, 0, run(t, orderOf(t, 2, tagOf(4, 3), reading("d")))))
	same(t, "picked", picks(n), 2)
	same(t, "Rows", n.Rows(), []api.Row{
		{Key: "a", Record: api.Record{Has: true, Value: []byte("y"), Home: 1}},
		{Key: "b", Record: api.Record{Has: true, Value: []byte("x")}},
	})
	same(t, "Decided", n.Decided(), []api.Decision{{Tag: two.Tag}, {Tag: tagOf(4, 3), Result: api.Result{Outs: []api.Out{{}}}}, {Tag: one.Tag}})
	same(t, "Replies", n.Replies(), []api.Reply{})
	o.silent()
}

// P23.8: an entry that is no item of so many regions isn't fed, nor any behind it.
func TestPickNoItem(t *testing.T) {
	good := run(t, orderOf(t, 2, tagOf(4, 1), writing("x", "b")))
	for _, bad := range []string{
		"", "x", good + "x", good[1:],
		bytesOf(t, orderOf(t, 2, tagOf(4, 1), writing("x", "b"))),
		run(t, orderOf(t, 3, tagOf(4, 1), writing("x", "b"))), // at home in 2
		piece(t, 0, orderOf(t, 2, tagOf(4, 1), moving("b", 2))),
	} {
		_, n, o := played(t, 1, 2, 3)
		o.say(chosen(3, 0, 0, bad), chosen(3, 0, 1, good))
		same(t, "Pick", n.Pick(0), false)
		same(t, "Pick", n.Pick(0), false)
		same(t, "Fed", n.Fed(0), 0)
		same(t, "Chosen", n.Chosen(0), []string{bad, good})
	}
	// An item that doesn't count is fed all the same.
	_, n, o := played(t, 1, 2, 3)
	o.say(chosen(3, 1, 0, good), chosen(3, 1, 1, good))
	same(t, "picked", picks(n), 2)
	same(t, "Decided", n.Decided(), []api.Decision{})
}

// P23.2, P23.8: what was fed goes the way of the sched; Waiting and Ahead are its.
func TestPickWaits(t *testing.T) {
	_, n, o := played(t, 1, 2, 3)
	both := orderOf(t, 2, tagOf(4, 1), writing("x", "a", "b"))
	behind := orderOf(t, 2, tagOf(4, 2), reading("b"))
	o.say(chosen(3, 0, 0, piece(t, 0, both)), chosen(3, 0, 1, run(t, behind)), chosen(3, 1, 0, piece(t, 0, both)))
	same(t, "Pick", n.Pick(0), true)
	same(t, "Pick", n.Pick(0), true)
	same(t, "Waiting", n.Waiting(), []api.Tag{both.Tag, behind.Tag})
	same(t, "Ahead", n.Ahead(behind.Tag), []api.Tag{both.Tag})
	same(t, "Ahead", n.Ahead(both.Tag), []api.Tag{})
	same(t, "Decided", n.Decided(), []api.Decision{})
	wants(t, "Check", n.Check(), api.ErrBusy)
	same(t, "Pick", n.Pick(1), true)
	same(t, "Waiting", n.Waiting(), []api.Tag{})
	same(t, "Ahead", n.Ahead(behind.Tag), []api.Tag{})
	same(t, "Decided", len(n.Decided()), 2)
	wants(t, "Check", n.Check(), api.OK)
}

// P23.8: with each Tick the orders of what is pending are told to all members of their logs, by the records as they were when they were told first.
func TestOrdersTold(t *testing.T) {
	_, n, o := played(t, 1, 2, 3)
	single, other := submits(t, n, writing("x", "b")), submits(t, n, writing("x", "a"))
	both, move := submits(t, n, reading("a", "b")), submits(t, n, moving("d", 1))
	o.silent()
	orders := []api.Order{
		orderOf(t, 2, api.Tag{Id: single}, writing("x", "b")),
		orderOf(t, 2, api.Tag{Id: other}, writing("x", "a")),
		orderOf(t, 2, api.Tag{Id: both}, reading("a", "b")),
		orderOf(t, 2, api.Tag{Id: move}, moving("d", 1)),
	}
	var told []api.Message
	for i, group := range []int{0, 1, 2, 2} {
		told = append(told, telling(1, group, bytesOf(t, orders[i])))
	}
	tells := func() {
		t.Helper()
		n.Tick()
		o.hear()
		for node := range 6 {
			heard := only(o.heard[node], api.MsgOrder)
			o.heard[node] = nil
			want := []api.Message{}
			for _, m := range told {
				m.To = node
				if node != 1 && (m.Group == 2 || m.Group == node/3) {
					want = append(want, m)
				}
			}
			same(t, "orders", heard, want)
		}
	}
	tells()
	tells()
	// Where b is at home now, the order of the present try doesn't ask.
	moved := orderOf(t, 2, tagOf(4, 1), moving("b", 1))
	o.say(chosen(3, 0, 0, piece(t, 0, moved)))
	same(t, "picked", picks(n), 1)
	tells()
	// Once it is stale, the next try is told by the records as they are.
	o.say(chosen(3, 0, 1, run(t, orders[0])))
	same(t, "picked", picks(n), 1)
	same(t, "Decided", n.Decided()[1], api.Decision{Tag: api.Tag{Id: single}, Result: api.Result{Code: api.ErrStale}})
	again := orders[0]
	again.Tag.Try = 1
	again.Marks = []api.Mark{{Key: "b", Home: 1, Count: 1}}
	told[0] = telling(1, 1, bytesOf(t, again))
	tells()
	// What is replied isn't told any more.
	o.say(chosen(3, 1, 0, run(t, again)))
	same(t, "picked", picks(n), 1)
	same(t, "Replies", n.Replies(), []api.Reply{{Id: single}})
	same(t, "Pending", n.Pending(), []api.Id{other, both, move})
	told = told[1:]
	tells()
}

// P23.8: three stale tries are answered by ErrTries.
func TestTries(t *testing.T) {
	_, n, o := played(t, 1, 2, 3)
	id := submits(t, n, writing("x", "b"))
	for try := range 3 {
		same(t, "Replies", n.Replies(), []api.Reply{})
		n.Tick()
		o.hear()
		var order string
		for _, m := range o.told(try % 2 * 5) {
			if m.Kind == api.MsgOrder {
				order = m.Value
			}
		}
		read, ok := readOrder(order, 2)
		same(t, "order", ok, true)
		same(t, "try", read.Tag, api.Tag{Id: id, Try: try})
		home := try % 2
		move := api.Order{Tag: tagOf(4, uint64(try+1)), Txn: moving("b", 1-home), Marks: read.Marks}
		at := n.Fed(home)
		o.say(chosen(3, home, at, piece(t, try, move)), chosen(3, home, at+1, run(t, read)))
		same(t, "picked", picks(n), 2)
	}
	same(t, "Replies", n.Replies(), []api.Reply{{Id: id, Result: api.Result{Code: api.ErrTries}}})
	same(t, "Pending", n.Pending(), []api.Id{})
}

// P23.8: orders are told behind what else a Tick tells, so that however many are pending, that isn't lost. Once some were lost, they leave room for answers, as long as any is.
func TestOrdersLast(t *testing.T) {
	_, n, o := played(t, 1, 1, 3)
	begins(t, n, 0)
	ballot, _ := o.asked(0, 0)
	o.forget()
	var ids []api.Id
	for range 64 {
		ids = append(ids, submits(t, n, writing("x", "a")))
	}
	tells := func(orders int) {
		t.Helper()
		n.Tick()
		o.hear()
		heard := o.told(0)
		same(t, "asked", heard[0], api.Message{Kind: api.MsgAsk, From: 1, Group: 0, Ballot: ballot})
		same(t, "needs", len(only(heard, api.MsgNeed)), 2)
		same(t, "orders", len(only(heard, api.MsgOrder)), orders)
		o.forget()
	}
	tells(13)
	tells(7)
	tells(7)
	replied := func(from, upto int) {
		t.Helper()
		for _, id := range ids[from:upto] {
			o.say(full(0, 0, bytesOf(t, orderOf(t, 1, api.Tag{Id: id}, writing("x", "a")))))
		}
		same(t, "Replies", len(n.Replies()), upto-from)
	}
	replied(0, 56)
	tells(7)
	replied(56, 57)
	// All that is pending is told, so that the next Tick may tell more again.
	tells(7)
	for range 20 {
		submits(t, n, writing("x", "a"))
	}
	tells(13)
	tells(7)
}

// P23.8: Check saves the sched's snapshot.
func TestCheck(t *testing.T) {
	d, n := alone(t)
	submits(t, n, writing("x", "a"))
	submits(t, n, moving("a", 0))
	n.Tick()
	same(t, "picked", picks(n), 2)
	rows := n.Rows()
	wants(t, "Check", n.Check(), api.OK)
	k, err := durable.Open(d.Crash(nil), []int{0, 1}, 0)
	wants(t, "durable.Open", err, api.OK)
	state, err := k.Load()
	wants(t, "Load", err, api.OK)
	s, err := sched.Restore(state, 1)
	wants(t, "Restore", err, api.OK)
	same(t, "Rows", s.Rows(), rows)
	same(t, "Fed", s.Fed(0), 2)
	same(t, "bytes", code.NewEye(state).End(), api.ErrTail)
}
