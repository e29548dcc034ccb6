package node

import (
	"slices"

	"argosy/api"
	"argosy/lead"
	"argosy/order"
	"argosy/split"
)

// reign is a node's own of a log, under a ballot that no other one has.
type reign struct {
	*lead.Leader[string]
	ballot  uint64
	from    int         // the place from which on promises tell what was taken
	told    int         // the place behind the last one whose value was told
	waiting []api.Order // those that aren't in the log, each try's once
}

// Lead lets the node try to lead a log.
func (n *Node) Lead(group int) api.Errno {
	if n.down || !n.has(group) || !n.logs[group].has(n.me) || !n.keeper.Voter() {
		return api.ErrStep
	}
	l := n.logs[group]
	ballot, ok := n.ballotAbove(max(l.seen, n.keeper.Promised(group)))
	if !ok {
		return api.ErrOver
	}
	from := l.known.Len()
	// Nobody may know of a ballot ahead of that: a later life would reign under it once more.
	if _, ok, err := n.keeper.Promise(group, ballot, from); !ok {
		return n.heard(err)
	}
	leader, _ := lead.New[string](ballot, len(l.members), from)
	l.reign = &reign{Leader: leader, ballot: ballot, from: from}
	n.ask(l)
	n.flush()
	return api.OK
}

// ballotAbove gives the next ballot of those that are this node's: whose remainder by the number of nodes is its own one. False, if there is none.
func (n *Node) ballotAbove(seen uint64) (uint64, bool) {
	nodes := uint64(len(n.ports))
	ballot := (seen/nodes+1)*nodes + uint64(n.me)
	return ballot, ballot > seen
}

// urge tells once more what nobody may have heard of.
func (n *Node) urge(l *log) {
	switch {
	case l.leads():
		n.push(l)
	case l.reign != nil:
		n.ask(l)
	}
}

// ask asks the members for promises.
func (n *Node) ask(l *log) {
	n.tell(l.members, api.Message{Kind: api.MsgAsk, Group: l.number, Slot: l.reign.from, Ballot: l.reign.ballot})
}

// push tells the members what is under way.
func (n *Node) push(l *log) {
	r := l.reign
	if value, ok := r.Value(); ok {
		n.tell(l.members, api.Message{Kind: api.MsgTake, Group: l.number, Slot: r.Slot(), Ballot: r.ballot, Value: value})
	}
}

// goOn lets what is to be done next in a log be under way, and be told. It does nothing, unless something has changed by which the log can go on.
func (n *Node) goOn(l *log) {
	if !l.leads() {
		return
	}
	r := l.reign
	if _, busy := r.Value(); !busy {
		n.offer(l)
	}
	if _, busy := r.Value(); busy && r.told <= r.Slot() {
		r.told = r.Slot() + 1
		n.push(l)
	}
}

// offer offers what comes first. An order in the log waits no more.
func (n *Node) offer(l *log) {
	r := l.reign
	r.waiting = slices.DeleteFunc(r.waiting, func(o api.Order) bool { return l.came(o.Tag) })
	if l.isFull() {
		n.refuse(l)
	} else if entry, ok := n.wanted(l); ok {
		r.Offer(entry)
	}
}

// wanted gives the entry that comes first. Pieces are ahead of orders: there must be room for them, as others wait for them elsewhere.
func (n *Node) wanted(l *log) (string, bool) {
	if !l.isGlobal() {
		if piece, ok := split.Next(n.global().placed(), l.number, l.last()); ok {
			return itemEntry(piece), true
		}
	}
	if len(l.reign.waiting) == 0 {
		return "", false
	}
	first := l.reign.waiting[0]
	if l.isGlobal() {
		return orderEntry(first), true
	}
	return itemEntry(api.Item{Kind: api.ItRun, Order: first}), true
}

// refuse tells the nodes of the orders that wait that there is no room for them.
func (n *Node) refuse(l *log) {
	for _, o := range taken(&l.reign.waiting) {
		// An order's node is one of nine, of which there may be fewer.
		if node := o.Tag.Id.Node; node < len(n.ports) {
			n.send(api.Message{Kind: api.MsgFull, To: node, Group: l.number, Value: orderEntry(o)})
		}
	}
}

// queue lets an order wait, if the node leads its log.
func (n *Node) queue(entry string) {
	o, ok := readOrder(entry, n.regions)
	if !ok {
		return
	}
	l := n.logs[logOf(o, n.regions)]
	if !l.leads() {
		return
	}
	l.reign.wait(o)
	n.goOn(l)
}

// wait lets an order wait, unless its try has one that does.
func (r *reign) wait(o api.Order) {
	if !slices.ContainsFunc(r.waiting, func(w api.Order) bool { return w.Tag == o.Tag }) {
		r.waiting = append(r.waiting, o)
	}
}

// orderEntry gives the bytes of an order that is right.
func orderEntry(o api.Order) string {
	b, _ := order.Write(o)
	return string(b)
}

// itemEntry gives the bytes of an item that is right.
func itemEntry(i api.Item) string {
	b, _ := order.WriteItem(i)
	return string(b)
}
