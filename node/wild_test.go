package node

import (
	"math"
	"testing"

	"argosy/api"
	"argosy/link"
)

// wildMessage gives some message that is right, of few numbers, often with an entry that means something.
func wildMessage(t *testing.T, next func(int) int, nodes, me int, entries []string) api.Message {
	m := api.Message{Kind: 1 + next(9), From: next(nodes), To: me, Group: next(4), Slot: next(6), Ballot: uint64(next(40))}
	if next(20) == 0 {
		m.Slot = 62 + next(3)
	}
	if next(50) == 0 {
		m.Ballot = math.MaxUint64 - uint64(next(3))
	}
	switch m.Kind {
	case api.MsgTake, api.MsgChosen, api.MsgOrder, api.MsgFull:
		m.Value = entries[next(len(entries))]
	case api.MsgPromise:
		for slot := range next(4) {
			m.Votes = append(m.Votes, vote(2*slot, uint64(next(40)), entries[next(len(entries))]))
		}
	}
	return m
}

// wildEntries gives orders and items, of other numbers of regions too, and what is neither.
func wildEntries(t *testing.T) []string {
	entries := []string{"", "x", string(make([]byte, api.MaxBody))}
	for regions := 1; regions <= 3; regions++ {
		for seq, txn := range []api.Txn{reading(), writing("x", "a"), reading("a", "b", "c"), moving("b", 0), moving("b", regions-1)} {
			o := orderOf(t, regions, tagOf(seq+3, uint64(seq+1)), txn)
			entries = append(entries, bytesOf(t, o), piece(t, seq, o), run(t, o))
		}
	}
	return entries
}

// P1: whatever messages come, from whomever, each call ends, and none panics; and P23.9: what isn't the node's to vote isn't taken.
func TestWild(t *testing.T) {
	entries := wildEntries(t)
	for seed := range uint64(60) {
		next := steps(seed)
		regions, replicas := 1+next(3), 1+2*next(2)
		nodes := regions * replicas
		me := next(nodes)
		d := votersDisk(t)
		if seed%9 == 8 {
			d = newDisk(t)
		}
		n := opened(t, d, me, regions, replicas)
		links := []*link.Link{}
		for node := range nodes {
			links = append(links, link.New(uint64(node+5)))
		}
		for range 300 {
			switch next(12) {
			case 0:
				n.Tick()
			case 1:
				n.Lead(next(6) - 1)
			case 2:
				n.Pick(next(5) - 1)
			case 3:
				n.Submit([]api.Txn{reading("a"), moving("b", next(4)-1), writing("x", "c", "d"), {}}[next(4)])
			case 4:
				n.Check()
			case 5:
				if next(40) == 0 {
					d.Limit(next(9))
				}
			default:
				m := wildMessage(t, next, nodes, me, entries)
				if m.From != me {
					links[m.From].Send(written(t, m))
				}
			}
			for from, at := range links {
				for _, p := range at.Packets() {
					n.Take(api.Parcel{From: from, To: me, Packet: p})
				}
			}
			for _, p := range n.Out() {
				_, answers := links[p.To].Receive(p.Packet)
				for _, answer := range answers {
					n.Take(api.Parcel{From: p.To, To: me, Packet: answer})
				}
			}
			for group := -1; group < 5; group++ {
				n.Chosen(group)
				n.Leads(group)
				n.Fed(group)
			}
			n.Waiting()
			n.Rows()
		}
	}
}

// P1: whatever numbers are handed in.
func TestWildNumbers(t *testing.T) {
	_, n := alone(t)
	for _, k := range []int{math.MinInt, -1, 2, 3, 64, math.MaxInt} {
		wants(t, "Lead", n.Lead(k), api.ErrStep)
		same(t, "Pick", n.Pick(k), false)
		same(t, "Chosen", n.Chosen(k), []string{})
		same(t, "Fed", n.Fed(k), 0)
		leads(t, n, k, false)
		same(t, "Ahead", n.Ahead(api.Tag{Id: api.Id{Node: k}, Try: k}), []api.Tag{})
		n.Take(api.Parcel{From: k, To: 0, Packet: api.Packet{Epoch: 1, Data: []byte{1}}})
		n.Take(api.Parcel{From: 0, To: k})
		n.Take(api.Parcel{From: k, To: k, Packet: api.Packet{Epoch: math.MaxUint64, Peer: 1, Seq: 1, Ack: math.MaxUint64}})
	}
	same(t, "Out", n.Out(), []api.Parcel{})
	leads(t, n, 0, true)
}

// P1: whatever packets come.
func TestWildPackets(t *testing.T) {
	_, n, o := played(t, 1, 1, 3)
	numbers := []uint64{0, 1, 2, 16, 17, math.MaxUint64 - 1, math.MaxUint64}
	for _, epoch := range numbers {
		for _, peer := range numbers {
			for _, seq := range numbers {
				for _, ack := range numbers {
					n.Take(api.Parcel{From: 0, To: 1, Packet: api.Packet{Epoch: epoch, Peer: peer, Seq: seq, Ack: ack, Data: []byte("x")}})
					n.Tick()
					n.Out()
				}
			}
		}
	}
	o.say(need(2, 0, 0))
	same(t, "Down", n.Down(), false)
}
