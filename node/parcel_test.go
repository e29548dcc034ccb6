package node

import (
	"math"
	"slices"
	"testing"

	"argosy/api"
)

// P23.3: the messages of a life go out as packets of it: a hello first, the data as soon as the other side's life is known, and again with each Tick, until they are acknowledged.
func TestPackets(t *testing.T) {
	d := votersDisk(t)
	n, err := Open(d, 0, 1, 3, 6)
	wants(t, "Open", err, api.OK)
	begins(t, n, 0)
	hellos := []api.Parcel{{From: 0, To: 1, Packet: api.Packet{Epoch: 7}}, {From: 0, To: 2, Packet: api.Packet{Epoch: 7}}}
	same(t, "Out", n.Out(), hellos)
	same(t, "Out", n.Out(), []api.Parcel{})
	begins(t, n, 1)
	same(t, "Out", n.Out(), hellos)
	n.Tick()
	same(t, "Out", n.Out(), hellos)
	o := play(t, n, 0, 3)
	for _, p := range hellos {
		o.take(p)
	}
	o.hear()
	for node := 1; node < 3; node++ {
		kinds := []int{}
		for _, m := range o.told(node) {
			kinds = append(kinds, m.Kind)
		}
		// Those that weren't acknowledged are the same ones behind the Tick.
		same(t, "kinds", kinds, []int{api.MsgAsk, api.MsgAsk, api.MsgAsk, api.MsgAsk, api.MsgNeed, api.MsgNeed})
	}
}

// P23.3: data that weren't acknowledged go out again with each Tick, and nothing else does.
func TestAgain(t *testing.T) {
	_, n, o := played(t, 0, 1, 3)
	o.say(need(1, 0, 0))
	entries := []string{"x", "y"}
	o.say(chosen(2, 0, 0, entries[0]), chosen(2, 0, 1, entries[1]))
	at := o.links[1]
	wants(t, "Send", at.Send(written(t, api.Message{Kind: api.MsgNeed, From: 1, To: 0})), api.OK)
	n.Take(api.Parcel{From: 1, To: 0, Packet: at.Packets()[0]})
	first := n.Out()
	// The answer comes first, then what is told.
	same(t, "packets", len(first), 3)
	same(t, "answer", first[0].Packet, api.Packet{Epoch: 1, Peer: 12, Ack: 2})
	for i, p := range first[1:] {
		same(t, "packet", p.Packet, api.Packet{Epoch: 1, Peer: 12, Seq: uint64(i + 1), Ack: 2, Data: written(t, chosenTo(1, i, entries[i]))})
	}
	for range 2 {
		n.Tick()
		var again []api.Packet
		for _, p := range n.Out() {
			if p.To == 1 {
				again = append(again, p.Packet)
			}
		}
		for i, p := range first[1:] {
			same(t, "again", again[i], p.Packet)
		}
	}
	// What a packet brings is new alone: the elder ones don't go out with it.
	wants(t, "Send", at.Send(written(t, api.Message{Kind: api.MsgNeed, From: 1, To: 0, Slot: 1})), api.OK)
	n.Take(api.Parcel{From: 1, To: 0, Packet: at.Packets()[1]})
	out := n.Out()
	same(t, "packets", len(out), 2)
	same(t, "data", out[1].Packet.Data, written(t, chosenTo(1, 1, entries[1])))
}

func chosenTo(node, slot int, value string) api.Message {
	m := chosen(0, 0, slot, value)
	m.To = node
	return m
}

// P23.3: a life that the link meets gets all that isn't acknowledged, at once.
func TestNewLife(t *testing.T) {
	_, n, o := played(t, 0, 1, 3)
	o.say(need(1, 0, 0))
	begins(t, n, 0)
	lost := n.Out()
	same(t, "packets", len(lost), 2)
	n.Take(api.Parcel{From: 1, To: 0, Packet: api.Packet{Epoch: 99}})
	out := n.Out()
	same(t, "packets", len(out), 2)
	same(t, "answer", out[0], api.Parcel{From: 0, To: 1, Packet: api.Packet{Epoch: 1, Peer: 99}})
	same(t, "Peer", out[1].Packet.Peer, uint64(99))
	same(t, "Seq", out[1].Packet.Seq, uint64(1))
	same(t, "Data", out[1].Packet.Data, lost[0].Packet.Data)
	n.Take(api.Parcel{From: 1, To: 0, Packet: api.Packet{Epoch: 99}})
	same(t, "packets", len(n.Out()), 1)
	// An elder life isn't heard any more.
	n.Take(api.Parcel{From: 1, To: 0, Packet: api.Packet{Epoch: 98}})
	same(t, "packets", len(n.Out()), 0)
}

// P23.3: what a link doesn't take, as sixteen aren't acknowledged, is lost.
func TestLost(t *testing.T) {
	_, n, o := played(t, 0, 1, 3)
	o.say(need(1, 0, 0))
	for slot := range 64 {
		o.say(chosen(2, 0, slot, string(rune('a'+slot%26))))
	}
	o.forget()
	at := o.links[1]
	var out []api.Parcel
	for slot := range 20 {
		m := need(1, 0, slot)
		m.To = 0
		if at.Send(written(t, m)) == api.OK {
			n.Take(api.Parcel{From: 1, To: 0, Packet: at.Packets()[at.Open()-1]})
		}
		out = append(out, n.Out()...)
	}
	var data [][]byte
	for _, p := range out {
		if p.Packet.Seq > 0 {
			data = append(data, p.Packet.Data)
		}
	}
	same(t, "data", len(data), 16)
	for _, p := range out {
		o.take(p)
	}
	heard := o.told(1)
	same(t, "heard", len(heard), 16)
	for i, m := range heard {
		same(t, "heard", m, chosenTo(1, i/4+i%4, string(rune('a'+(i/4+i%4)%26))))
	}
	o.say(need(1, 0, 60))
	same(t, "heard", len(o.told(1)), 4)
}

// P23.3: a parcel to another node, from the node itself, or from none, isn't taken.
func TestWrongParcels(t *testing.T) {
	_, n, o := played(t, 1, 2, 3)
	hello := api.Packet{Epoch: 99}
	for _, from := range []int{math.MinInt, -1, 1, 6, 7, 8, 9, math.MaxInt} {
		n.Take(api.Parcel{From: from, To: 1, Packet: hello})
	}
	for _, to := range []int{math.MinInt, -1, 0, 2, 6, math.MaxInt} {
		n.Take(api.Parcel{From: 0, To: to, Packet: hello})
	}
	n.Take(api.Parcel{From: 0, To: 1})
	same(t, "Out", n.Out(), []api.Parcel{})
	for _, from := range []int{0, 2, 3, 4, 5} {
		n.Take(api.Parcel{From: from, To: 1, Packet: hello})
		same(t, "Out", n.Out(), []api.Parcel{{From: 1, To: from, Packet: api.Packet{Epoch: 1, Peer: 99}}})
	}
	o.silent()
}

// P23.3: messages that can't be read, or aren't from that node to this one, aren't taken; those behind them are.
func TestWrongMessages(t *testing.T) {
	_, n, o := played(t, 1, 2, 3)
	good := chosen(0, 0, 0, "x")
	good.To = 1
	data := written(t, good)
	torn := slices.Clone(data)
	torn[len(torn)-1] ^= 1
	for _, bad := range [][]byte{nil, {1}, torn, data[:len(data)-1], append(slices.Clone(data), 0)} {
		o.send(0, bad)
	}
	from, to := good, good
	from.From, to.To = 2, 2
	o.send(0, written(t, from))
	o.send(0, written(t, to))
	self := good
	self.From = 1
	o.send(0, written(t, self))
	same(t, "Chosen", n.Chosen(0), []string{})
	o.silent()
	o.send(0, data)
	same(t, "Chosen", n.Chosen(0), []string{"x"})
}

// P23.3: messages of a log that there isn't are nothing.
func TestNoLog(t *testing.T) {
	for _, c := range [][2]int{{1, 2}, {1, 3}, {2, 3}} {
		_, n, o := played(t, 0, c[0], 3)
		for kind := api.MsgAsk; kind <= api.MsgFull; kind++ {
			o.say(api.Message{Kind: kind, From: 1, Group: c[1], Ballot: 9})
		}
		o.silent()
		same(t, "Chosen", n.Chosen(c[1]), []string{})
		same(t, "seen", n.logs[c[0]].seen, uint64(0))
	}
}

// P23.3: Out, Replies and Decided tell what came since they were asked last, in order.
func TestLists(t *testing.T) {
	_, n := alone(t)
	first, second := submits(t, n, writing("x", "a")), submits(t, n, reading("a"))
	n.Tick()
	same(t, "Decided", n.Decided(), []api.Decision{})
	picks(n)
	third := submits(t, n, api.Txn{Kind: api.TxRun, Writes: []string{"a"}, Ops: []api.Op{{Kind: api.OpAbsent, Key: "a"}}})
	n.Tick()
	picks(n)
	outs := []api.Out{{Has: true, Value: []byte("x")}}
	results := []api.Result{{}, {Outs: outs}, {Code: api.ErrAbort}}
	var replies []api.Reply
	var decided []api.Decision
	for i, id := range []api.Id{first, second, third} {
		replies = append(replies, api.Reply{Id: id, Result: results[i]})
		decided = append(decided, api.Decision{Tag: api.Tag{Id: id}, Result: results[i]})
	}
	same(t, "Replies", n.Replies(), replies)
	same(t, "Decided", n.Decided(), decided)
	same(t, "Replies", n.Replies(), []api.Reply{})
	same(t, "Decided", n.Decided(), []api.Decision{})
	same(t, "Out", n.Out(), []api.Parcel{})
	fourth := submits(t, n, reading("b"))
	n.Tick()
	picks(n)
	same(t, "Replies", n.Replies(), []api.Reply{{Id: fourth, Result: api.Result{Outs: []api.Out{{}}}}})
	same(t, "Decided", len(n.Decided()), 1)
}
