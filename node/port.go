package node

import (
	"slices"

	"argosy/api"
	"argosy/link"
	"argosy/wire"
)

// crowd is how many data that aren't acknowledged leave no room for an order, where room is scarce: two votes, and what is told of a log's places, must find some.
const crowd = api.Window - 2 - taught

// port is the node's side of the link to another one.
type port struct {
	*link.Link
	due    int  // how many of the data that aren't acknowledged, the last ones, are to go out
	lost   bool // something was lost since the last Tick
	scarce bool // something was lost between the two last Ticks
}

func newPort(epoch uint64) *port {
	return &port{Link: link.New(epoch)}
}

// Take takes a parcel.
func (n *Node) Take(p api.Parcel) {
	if n.down || p.To != n.me || p.From == n.me || !n.global().has(p.From) {
		return
	}
	at := n.ports[p.From]
	for _, data := range n.receive(at, p) {
		m, err := wire.Read(data)
		if err == api.OK && m.From == p.From && m.To == n.me {
			n.take(m)
		}
	}
	n.flush()
}

// receive gives what a parcel brings, and sends the answer.
func (n *Node) receive(at *port, p api.Parcel) [][]byte {
	elder := at.Peer()
	came, answers := at.Receive(p.Packet)
	n.put(p.From, answers)
	// A life that the link meets has got nothing of what was sent.
	if at.Peer() != elder {
		at.due = at.Open()
	}
	return came
}

// tell sends a message to nodes: to the node itself last, as it takes that at once, and may go on by it.
func (n *Node) tell(nodes []int, m api.Message) {
	for _, node := range nodes {
		if node != n.me {
			m.To = node
			n.send(m)
		}
	}
	if slices.Contains(nodes, n.me) {
		m.To = n.me
		n.send(m)
	}
}

// send sends a message. Its packet goes out at the end of the call, with all that is new for its node.
func (n *Node) send(m api.Message) {
	m.From = n.me
	if m.To == n.me {
		n.take(m)
		return
	}
	at := n.ports[m.To]
	data, err := wire.Write(m)
	if at.isFor(m) && err == api.OK && at.Send(data) == api.OK {
		at.due++
	} else {
		at.lost = true
	}
}

// isFor tells whether a port is for a message. Orders are told with each Tick, all that are pending: once they have filled a link, they would do so each time, ahead of the answers to what others ask with their Ticks, and nothing would ever be chosen.
func (p *port) isFor(m api.Message) bool {
	return m.Kind != api.MsgOrder || !p.scarce || p.Open() < crowd
}

// resend lets all go out once more that isn't acknowledged.
func (n *Node) resend() {
	for _, at := range n.ports {
		at.due = at.Open()
		at.scarce, at.lost = at.lost, false
	}
}

// flush sends what is due. A life that isn't known has to be asked for by the only packet that there is.
func (n *Node) flush() {
	for node, at := range n.ports {
		if at.due > 0 {
			packets := at.Packets()
			n.put(node, packets[max(0, len(packets)-at.due):])
			at.due = 0
		}
	}
}

// put lets packets be under way to a node.
func (n *Node) put(node int, packets []api.Packet) {
	for _, packet := range packets {
		n.out = append(n.out, api.Parcel{From: n.me, To: node, Packet: packet})
	}
}
