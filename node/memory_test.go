package node

import (
	"slices"
	"testing"

	"argosy/api"
)

// roomy gives bytes with spare room behind them, which must stay as it is.
func roomy(b []byte) []byte {
	all := append(slices.Clone(b), 0xee, 0xee, 0xee, 0xee)
	return all[:len(b)]
}

// unchanged tells whether bytes of roomy are as they were made.
func unchanged(b, was []byte) bool {
	return slices.Equal(b, was) && slices.Equal(b[len(b):][:4], []byte{0xee, 0xee, 0xee, 0xee})
}

// P23.11: a parcel isn't changed, its spare room neither, and may be written over behind the call, also if what it brings has to wait for its turn.
func TestParcelIsLeft(t *testing.T) {
	_, n, o := played(t, 1, 1, 3)
	o.say(need(0, 0, 0))
	at := o.links[0]
	var data [][]byte
	for slot := range 3 {
		m := chosen(0, 0, slot, "value")
		m.To = 1
		data = append(data, written(t, m))
		wants(t, "Send", at.Send(data[slot]), api.OK)
	}
	packets := at.Packets()
	for _, k := range []int{2, 1, 0} {
		p := api.Parcel{From: 0, To: 1, Packet: packets[k]}
		p.Packet.Data = roomy(data[k])
		n.Take(p)
		if !unchanged(p.Packet.Data, data[k]) {
			t.Errorf("parcel %d was changed", k)
		}
		clear(p.Packet.Data[:cap(p.Packet.Data)])
	}
	same(t, "Chosen", n.Chosen(0), []string{"value", "value", "value"})
}

// P23.11: a transaction isn't changed, and may be written over behind the call.
func TestTxnIsLeft(t *testing.T) {
	_, n := alone(t)
	value := roomy([]byte("x"))
	txn := api.Txn{Kind: api.TxRun, Writes: []string{"a", "zz"}[:1], Ops: []api.Op{{Kind: api.OpWrite, Key: "a", Value: value}}}
	submits(t, n, txn)
	if !unchanged(value, []byte("x")) || txn.Writes[0] != "a" || txn.Writes[:2][1] != "zz" || txn.Ops[0].Key != "a" {
		t.Errorf("a transaction was changed: %v", txn)
	}
	clear(value)
	clear(txn.Writes[:2])
	clear(txn.Ops)
	n.Tick()
	picks(n)
	same(t, "Rows", n.Rows(), []api.Row{{Key: "a", Record: api.Record{Has: true, Value: []byte("x")}}})
}

// P23.11: parcels that were given are new memory.
func TestParcelsAreNew(t *testing.T) {
	_, n, o := played(t, 1, 1, 3)
	o.say(need(0, 0, 0), need(2, 0, 0))
	begins(t, n, 0)
	first := n.Out()
	want := slices.Clone(first[0].Packet.Data)
	clear(first[0].Packet.Data[:cap(first[0].Packet.Data)])
	clear(first[:cap(first)])
	n.Tick()
	second := n.Out()
	same(t, "again", second[0].Packet.Data, want)
	clear(second[0].Packet.Data)
	begins(t, n, 1)
	third := n.Out()
	clear(second[:cap(second)])
	same(t, "parcels", len(third), 2)
	same(t, "From", third[1].From, 1)
}

// P23.11: decisions, replies and records are new memory, and share none.
func TestResultsAreNew(t *testing.T) {
	_, n := alone(t)
	submits(t, n, writing("x", "a"))
	id := submits(t, n, reading("a", "b"))
	n.Tick()
	picks(n)
	decided, replies, rows := n.Decided(), n.Replies(), n.Rows()
	clear(decided[1].Result.Outs[0].Value)
	clear(rows[0].Record.Value)
	outs := []api.Out{{Has: true, Value: []byte("x")}, {}}
	same(t, "Replies", replies[1], api.Reply{Id: id, Result: api.Result{Outs: outs}})
	clear(replies[1].Result.Outs[0].Value)
	clear(decided[:cap(decided)])
	clear(replies[:cap(replies)])
	again := submits(t, n, reading("a", "b"))
	n.Tick()
	picks(n)
	same(t, "Replies", n.Replies(), []api.Reply{{Id: again, Result: api.Result{Outs: outs}}})
	same(t, "Decided", n.Decided(), []api.Decision{{Tag: api.Tag{Id: again}, Result: api.Result{Outs: outs}}})
	same(t, "Rows", n.Rows(), []api.Row{{Key: "a", Record: api.Record{Has: true, Value: []byte("x")}}})
}

// P23.11: what is told of logs, of tries and of submissions is new memory.
func TestListsAreNew(t *testing.T) {
	_, n, o := played(t, 1, 2, 3)
	both := orderOf(t, 2, tagOf(4, 1), writing("x", "a", "b"))
	o.say(chosen(3, 0, 0, piece(t, 0, both)), chosen(3, 0, 1, piece(t, 1, orderOf(t, 2, tagOf(4, 2), moving("b", 1)))))
	same(t, "picked", picks(n), 2)
	submits(t, n, reading("a"))
	log, waiting, ahead, pending := n.Chosen(0), n.Waiting(), n.Ahead(tagOf(4, 2)), n.Pending()
	clear(log[:cap(log)])
	clear(waiting[:cap(waiting)])
	clear(ahead[:cap(ahead)])
	clear(pending[:cap(pending)])
	same(t, "Chosen", n.Chosen(0)[0], piece(t, 0, both))
	same(t, "Waiting", n.Waiting(), []api.Tag{both.Tag, tagOf(4, 2)})
	same(t, "Ahead", n.Ahead(tagOf(4, 2)), []api.Tag{both.Tag})
	same(t, "Pending", n.Pending(), []api.Id{{Node: 1, Epoch: 1, Seq: 1}})
}

// Rule 6: two nodes, each with its disk, are by themselves.
func TestNodesAreByThemselves(t *testing.T) {
	d, one := alone(t)
	submits(t, one, writing("x", "a"))
	one.Tick()
	two := opened(t, d.Crash(nil), 0, 1, 1)
	begins(t, two, 0)
	submits(t, two, writing("y", "b"))
	two.Tick()
	same(t, "Chosen", []int{len(one.Chosen(0)), len(two.Chosen(0))}, []int{1, 2})
	same(t, "picked", []int{picks(one), picks(two)}, []int{1, 2})
	submits(t, one, writing("z", "c"))
	one.Tick()
	picks(one)
	same(t, "Rows", one.Rows(), []api.Row{
		{Key: "a", Record: api.Record{Has: true, Value: []byte("x")}},
		{Key: "c", Record: api.Record{Has: true, Value: []byte("z")}},
	})
	same(t, "Rows", two.Rows(), []api.Row{
		{Key: "a", Record: api.Record{Has: true, Value: []byte("x")}},
		{Key: "b", Record: api.Record{Has: true, Value: []byte("y")}},
	})
}
