package node

import (
	"slices"
	"testing"

	"argosy/api"
)

// underWay fails, unless members have just been told this value at a place, and nothing else; then it is chosen.
func (o *others) underWay(group int, ballot uint64, slot int, value string) {
	o.t.Helper()
	members := slices.DeleteFunc(slices.Clone(o.n.logs[group].members), func(node int) bool { return node == o.me })
	o.hears(members, take(o.me, group, ballot, slot, value))
	o.silent()
	o.choose(group, ballot, slot, value)
}

// choose lets enough members take a value that is under way, and fails, unless all are told that it is chosen.
func (o *others) choose(group int, ballot uint64, slot int, value string) {
	o.t.Helper()
	members := slices.DeleteFunc(slices.Clone(o.n.logs[group].members), func(node int) bool { return node == o.me })
	o.say(took(members[0], group, ballot, slot))
	if len(members) > 2 {
		o.say(took(members[1], group, ballot, slot), took(members[2], group, ballot, slot))
	}
	same(o.t, "chosen", o.n.Chosen(group)[slot], value)
	for node := range o.heard {
		if node != o.me {
			all := o.told(node)
			same(o.t, "told", all[0], api.Message{Kind: api.MsgChosen, From: o.me, To: node, Group: group, Slot: slot, Value: value})
			o.heard[node] = all[1:]
		}
	}
}

// P23.6: an order waits with the one that leads its log; the first one that waits comes first, each once.
func TestOrdersWait(t *testing.T) {
	_, n, o := played(t, 1, 2, 3)
	var runs, entries []string
	for seq := range uint64(4) {
		one := orderOf(t, 2, tagOf(int(seq), seq+1), writing("x", "b"))
		runs = append(runs, bytesOf(t, one))
		entries = append(entries, run(t, one))
	}
	o.say(telling(5, 0, runs[3]))
	ballot := o.reigns(0)
	o.say(telling(5, 0, runs[0]))
	o.hears([]int{0, 2}, take(1, 0, ballot, 0, entries[0]))
	// What is under way, or waits already, waits once.
	o.say(telling(4, 0, runs[2]), telling(5, 0, runs[0]), telling(2, 0, runs[1]), telling(4, 0, runs[2]))
	o.silent()
	o.say(took(2, 0, ballot, 0))
	o.hears([]int{3, 4, 5}, chosen(1, 0, 0, entries[0]))
	o.hears([]int{0, 2}, chosen(1, 0, 0, entries[0]), take(1, 0, ballot, 1, entries[2]))
	o.say(telling(4, 0, runs[0]))
	o.say(took(0, 0, ballot, 1))
	o.forget()
	o.say(took(0, 0, ballot, 2))
	same(t, "Chosen", n.Chosen(0), []string{entries[0], entries[2], entries[1]})
	o.forget()
	// What is in the log doesn't wait.
	o.say(telling(4, 0, runs[2]), telling(4, 0, runs[1]))
	o.silent()
	n.Tick()
	o.hear()
	same(t, "under way", only(o.told(0), api.MsgTake), []api.Message{})
}

// P23.6: an order whose log another node leads, or nobody, waits nowhere: not even until the node leads.
func TestOrdersElsewhere(t *testing.T) {
	_, n, o := played(t, 1, 2, 3)
	single := orderOf(t, 2, tagOf(5, 1), writing("x", "b"))
	other := orderOf(t, 2, tagOf(5, 2), writing("x", "a"))
	both := orderOf(t, 2, tagOf(5, 3), writing("x", "a", "b"))
	move := orderOf(t, 2, tagOf(5, 4), moving("b", 1))
	all := []api.Message{telling(5, 0, bytesOf(t, single)), telling(5, 1, bytesOf(t, other)), telling(5, 2, bytesOf(t, both)), telling(5, 2, bytesOf(t, move))}
	o.say(all...)
	ballot := o.reigns(0)
	o.silent()
	n.Tick()
	o.forget()
	o.say(all...)
	o.underWay(0, ballot, 0, run(t, single))
	o.silent()
	o.say(higher(0, 0, ballot+1))
	ballot = o.reigns(2)
	o.silent()
	o.say(all...)
	o.underWay(2, ballot, 0, bytesOf(t, both))
	o.underWay(2, ballot, 1, bytesOf(t, move))
	o.silent()
}

// P23.6: a reign's orders don't wait in the next one.
func TestOrdersGoWithReign(t *testing.T) {
	_, n, o := played(t, 0, 1, 3)
	ballot := o.reigns(0)
	first, second := orderOf(t, 1, tagOf(1, 1), writing("x", "a")), orderOf(t, 1, tagOf(1, 2), writing("x", "a"))
	o.say(telling(1, 0, bytesOf(t, first)), telling(1, 0, bytesOf(t, second)))
	o.hears([]int{1, 2}, take(0, 0, ballot, 0, run(t, first)))
	begins(t, n, 0)
	next, _ := o.asked(2, 0)
	o.forget()
	// Its own promise tells of the first one.
	o.say(promise(1, 0, next))
	o.underWay(0, next, 0, run(t, first))
	o.silent()
	o.say(telling(1, 0, bytesOf(t, second)))
	o.underWay(0, next, 1, run(t, second))
}

// P23.6: what is no order of so many regions doesn't wait.
func TestNoOrders(t *testing.T) {
	_, _, o := played(t, 1, 2, 3)
	ballot := o.reigns(2)
	good := bytesOf(t, orderOf(t, 2, tagOf(5, 1), moving("b", 1)))
	for _, value := range []string{
		"", "x", good + "x", good[1:], good[:len(good)-1],
		bytesOf(t, orderOf(t, 3, tagOf(5, 1), moving("b", 1))), // at home in 2
		bytesOf(t, orderOf(t, 2, tagOf(5, 1), moving("b", 2))),
		piece(t, 0, orderOf(t, 2, tagOf(5, 1), moving("b", 1))),
	} {
		o.say(telling(5, 2, value))
		o.silent()
	}
	o.say(telling(5, 2, good))
	o.underWay(2, ballot, 0, good)
}

// P23.6: in a region's log the pieces come first, in the order of the global log, as soon as that is known.
func TestPiecesFirst(t *testing.T) {
	_, _, o := played(t, 1, 2, 3)
	ballot := o.reigns(0)
	one := orderOf(t, 2, tagOf(5, 1), writing("x", "b"))
	two := orderOf(t, 2, tagOf(5, 2), writing("x", "b"))
	both := orderOf(t, 2, tagOf(5, 3), writing("x", "a", "b"))
	move := orderOf(t, 2, tagOf(5, 4), moving("b", 1))
	away := orderOf(t, 2, tagOf(5, 5), moving("a", 0))
	o.say(telling(5, 0, bytesOf(t, one)), telling(5, 0, bytesOf(t, two)))
	// Of the global log the place 1 isn't known yet, nor anything behind it.
	o.say(chosen(4, 2, 0, bytesOf(t, both)), chosen(4, 2, 2, bytesOf(t, both)), chosen(4, 2, 4, bytesOf(t, move)))
	o.underWay(0, ballot, 0, run(t, one))
	o.underWay(0, ballot, 1, piece(t, 0, both))
	o.underWay(0, ballot, 2, run(t, two))
	o.silent()
	// At 1 stands one that has no key here, and behind it one that came already.
	o.say(chosen(4, 2, 1, bytesOf(t, away)))
	o.silent()
	o.say(chosen(4, 2, 3, "no order"))
	o.underWay(0, ballot, 3, piece(t, 4, move))
	o.silent()
}

// P23.6: which piece the log needs next is told by what counts in it, whoever has led it.
func TestPiecesGoOn(t *testing.T) {
	_, _, o := played(t, 1, 2, 3)
	var global []api.Order
	for seq := range uint64(5) {
		global = append(global, orderOf(t, 2, tagOf(3, seq+1), moving("b", 1)))
		o.say(chosen(3, 2, int(seq), bytesOf(t, global[seq])))
	}
	// The piece of a is none of this region's log, and one of a place that was passed doesn't count.
	for slot, entry := range []string{piece(t, 0, global[0]), "no item", piece(t, 2, global[2]), piece(t, 1, global[1]), piece(t, 63, orderOf(t, 2, tagOf(3, 9), moving("a", 1)))} {
		o.say(chosen(3, 0, slot, entry))
	}
	o.forget()
	begins(t, o.n, 0)
	ballot, slot := o.asked(0, 0)
	same(t, "Slot", slot, 5)
	o.forget()
	o.say(promise(0, 0, ballot))
	o.underWay(0, ballot, 5, piece(t, 3, global[3]))
	o.underWay(0, ballot, 6, piece(t, 4, global[4]))
	o.silent()
}

// P23.6: a piece that is chosen in the node's own global log is offered within the same call.
func TestPieceOfOwnGlobalLog(t *testing.T) {
	_, _, o := played(t, 1, 1, 3)
	region, global := o.reigns(0), o.reigns(1)
	move := orderOf(t, 1, tagOf(2, 1), moving("b", 0))
	o.say(telling(2, 1, bytesOf(t, move)))
	o.underWay(1, global, 0, bytesOf(t, move))
	o.underWay(0, region, 0, piece(t, 0, move))
	o.silent()
}

// filled lets a log's places be chosen up to one: by runs that count nowhere else.
func (o *others) filled(group, upto int) {
	o.t.Helper()
	for slot := range upto {
		one := orderOf(o.t, 1, tagOf(1, uint64(100+slot)), reading("a"))
		entry := run(o.t, one)
		if group == 1 {
			entry = bytesOf(o.t, orderOf(o.t, 1, tagOf(1, uint64(100+slot)), moving("a", 0)))
		}
		o.say(chosen(1, group, slot, entry))
	}
	o.forget()
}

// P23.6: if the log is full, the order's node is told so.
func TestFull(t *testing.T) {
	for group := range 2 {
		_, n, o := played(t, 0, 1, 3)
		o.filled(group, 62)
		ballot := o.reigns(group)
		var orders []api.Order
		for seq := range uint64(7) {
			txn := reading("a")
			if group == 1 {
				txn = moving("a", 0)
			}
			orders = append(orders, orderOf(t, 1, tagOf(int(seq)%3, seq+1), txn))
		}
		entry := func(o api.Order) string {
			if group == 1 {
				return bytesOf(t, o)
			}
			return run(t, o)
		}
		// Of these nodes there are none here.
		orders[4].Tag.Id.Node, orders[6].Tag.Id.Node = 8, 3
		o.say(telling(1, group, bytesOf(t, orders[0])), telling(1, group, bytesOf(t, orders[1])))
		o.underWay(group, ballot, 62, entry(orders[0]))
		for _, k := range []int{2, 4, 3, 6, 2, 5} {
			o.say(telling(2, group, bytesOf(t, orders[k])))
		}
		o.hears([]int{1, 2}, take(0, group, ballot, 63, entry(orders[1])))
		o.say(took(1, group, ballot, 63))
		same(t, "Chosen", len(n.Chosen(group)), 64)
		// Within the call by which the log is full, whoever waits is told.
		o.hears([]int{1}, chosen(0, group, 63, entry(orders[1])))
		o.hears([]int{2}, chosen(0, group, 63, entry(orders[1])), full(0, group, bytesOf(t, orders[2])), full(0, group, bytesOf(t, orders[5])))
		o.silent()
		leads(t, n, group, true)
		// Later ones are told at once, those that are in the log aren't.
		o.say(telling(1, group, bytesOf(t, orders[2])), telling(1, group, bytesOf(t, orders[1])), telling(1, group, bytesOf(t, orders[0])))
		o.hears([]int{2}, full(0, group, bytesOf(t, orders[2])))
		o.silent()
		n.Tick()
		o.forget()
		// One who doesn't lead tells nobody.
		o.say(higher(1, group, ballot+1), telling(1, group, bytesOf(t, orders[2])))
		o.silent()
	}
}

// P23.6: a node that is told so replies ErrLog, if it is its present try, and has an order.
func TestFullReply(t *testing.T) {
	_, n, o := played(t, 0, 1, 3)
	first, second := submits(t, n, reading("a")), submits(t, n, moving("a", 0))
	one := orderOf(t, 1, api.Tag{Id: first}, reading("a"))
	two := orderOf(t, 1, api.Tag{Id: second}, moving("a", 0))
	o.say(full(1, 0, bytesOf(t, one)))
	same(t, "Replies", n.Replies(), []api.Reply{})
	n.Tick()
	again := two
	again.Tag.Try = 1
	foreign := one
	foreign.Tag.Id.Epoch = 2
	o.say(full(1, 1, bytesOf(t, again)), full(1, 0, bytesOf(t, foreign)), full(1, 0, ""), full(1, 0, "x"))
	same(t, "Replies", n.Replies(), []api.Reply{})
	o.say(full(2, 1, bytesOf(t, two)), full(1, 1, bytesOf(t, two)))
	same(t, "Replies", n.Replies(), []api.Reply{{Id: second, Result: api.Result{Code: api.ErrLog}}})
	same(t, "Pending", n.Pending(), []api.Id{first})
	o.say(full(1, 0, bytesOf(t, one)))
	same(t, "Replies", n.Replies(), []api.Reply{{Id: first, Result: api.Result{Code: api.ErrLog}}})
	same(t, "Pending", n.Pending(), []api.Id{})
}

// P23.6: a single node whose log is full replies ErrLog with the next Tick.
func TestFullAlone(t *testing.T) {
	_, n := alone(t)
	for range 64 {
		submits(t, n, reading("a"))
	}
	n.Tick()
	same(t, "Chosen", len(n.Chosen(0)), 64)
	same(t, "picked", picks(n), 64)
	same(t, "Replies", len(n.Replies()), 64)
	id := submits(t, n, reading("a"))
	moved := submits(t, n, moving("a", 0))
	same(t, "Replies", n.Replies(), []api.Reply{})
	n.Tick()
	same(t, "Replies", n.Replies(), []api.Reply{{Id: id, Result: api.Result{Code: api.ErrLog}}})
	// The global log has room; the move's piece has none.
	same(t, "Pending", n.Pending(), []api.Id{moved})
	same(t, "Chosen", []int{len(n.Chosen(0)), len(n.Chosen(1))}, []int{64, 1})
	for range 63 {
		submits(t, n, moving("a", 0))
	}
	n.Tick()
	same(t, "Replies", n.Replies(), []api.Reply{})
	same(t, "Chosen", []int{len(n.Chosen(0)), len(n.Chosen(1))}, []int{64, 64})
	same(t, "Pick", n.Pick(0), false)
}
