package node

import (
	"slices"

	"argosy/api"
	"argosy/order"
)

// taught is how many places a node that asks is told of at most.
const taught = 4

// Tick lets time go on.
func (n *Node) Tick() {
	if n.down {
		return
	}
	n.resend()
	// Orders come last: a link takes only so many, and what is asked here must not be lost with each Tick.
	for _, l := range n.logs {
		n.urge(l)
	}
	for _, l := range n.logs {
		n.need(l)
	}
	for _, o := range n.front.Orders(n.sched) {
		group := logOf(o, n.regions)
		n.tell(n.logs[group].members, api.Message{Kind: api.MsgOrder, Group: group, Value: orderEntry(o)})
	}
	n.flush()
}

// Pick feeds the next entry of a region's log.
func (n *Node) Pick(region int) bool {
	if n.down || region < 0 || region >= n.regions {
		return false
	}
	entry, _ := n.logs[region].known.Get(n.sched.Fed(region))
	// What isn't known is empty, which is no item either.
	i, ok := readItem(entry, n.regions)
	if !ok {
		return false
	}
	for _, d := range n.sched.Feed(region, i) {
		n.decided = append(n.decided, d)
		n.reply(n.front.Decide(d))
	}
	return true
}

// take takes a message of another node, or of itself.
func (n *Node) take(m api.Message) {
	if !n.has(m.Group) {
		return
	}
	l := n.logs[m.Group]
	switch m.Kind {
	case api.MsgChosen:
		n.learn(l, m)
	case api.MsgNeed:
		n.teach(l, m)
	case api.MsgOrder:
		n.queue(m.Value)
	case api.MsgFull:
		n.full(m.Value)
	default:
		n.vote(l, m)
	}
}

// vote takes a message that has a ballot. These are between a log's members.
func (n *Node) vote(l *log, m api.Message) {
	voter := slices.Index(l.members, m.From)
	if voter < 0 || !l.has(n.me) {
		return
	}
	l.see(m.Ballot)
	switch m.Kind {
	case api.MsgAsk:
		n.promise(l, m)
	case api.MsgTake:
		n.accept(l, m)
	case api.MsgPromise:
		n.promised(l, voter, m)
	case api.MsgTook:
		n.took(l, voter, m)
	}
}

// promise promises a ballot.
func (n *Node) promise(l *log, m api.Message) {
	votes, ok, err := n.keeper.Promise(l.number, m.Ballot, m.Slot)
	n.answer(m, ok, err, api.Message{Kind: api.MsgPromise, Ballot: m.Ballot, Votes: votes})
}

// accept takes a value.
func (n *Node) accept(l *log, m api.Message) {
	ok, err := n.keeper.Accept(l.number, api.Vote[string]{Slot: m.Slot, Ballot: m.Ballot, Value: m.Value})
	n.answer(m, ok, err, api.Message{Kind: api.MsgTook, Slot: m.Slot, Ballot: m.Ballot})
}

// answer answers who asked for a vote: what was done, or why not. ErrArg is none of the disk: the value was too long.
func (n *Node) answer(asked api.Message, ok bool, err api.Errno, done api.Message) {
	n.heard(err)
	if !ok {
		if !n.keeper.Voter() || err != api.OK && err != api.ErrArg {
			return
		}
		done = api.Message{Kind: api.MsgHigher, Ballot: n.keeper.Promised(asked.Group)}
	}
	done.To, done.Group = asked.From, asked.Group
	n.send(done)
}

// promised takes a voter's promise.
func (n *Node) promised(l *log, voter int, m api.Message) {
	if r, ok := l.under(m.Ballot); ok {
		r.Promised(voter, m.Votes)
		n.goOn(l)
	}
}

// took takes a voter's word that it has taken a value; what is chosen by that is told to all.
func (n *Node) took(l *log, voter int, m api.Message) {
	r, ok := l.under(m.Ballot)
	if !ok {
		return
	}
	if value, ok := r.Taken(voter, m.Slot); ok {
		n.tell(n.all(), api.Message{Kind: api.MsgChosen, Group: l.number, Slot: m.Slot, Value: value})
		n.goOn(l)
	}
}

// learn comes to know what is chosen: the logs that the node leads may go on by it, another one too, if that is a piece for it.
func (n *Node) learn(l *log, m api.Message) {
	if l.known.Learn(m.Slot, m.Value) {
		for _, other := range n.logs {
			n.goOn(other)
		}
	}
}

// need asks the members of a log for what is chosen there, unless all is known.
func (n *Node) need(l *log) {
	if !l.isFull() {
		n.tell(l.members, api.Message{Kind: api.MsgNeed, Group: l.number, Slot: l.known.Len()})
	}
}

// teach tells who asks what is chosen.
func (n *Node) teach(l *log, m api.Message) {
	for i, value := range l.known.From(m.Slot, taught) {
		n.send(api.Message{Kind: api.MsgChosen, To: m.From, Group: l.number, Slot: m.Slot + i, Value: value})
	}
}

// full takes the word that there is no room for an order.
func (n *Node) full(entry string) {
	// What can't be read has no tag of a try.
	o, _ := order.Read([]byte(entry))
	n.reply(n.front.Full(o.Tag))
}

// reply keeps a reply, if it is one.
func (n *Node) reply(r api.Reply, ok bool) {
	if ok {
		n.replies = append(n.replies, r)
	}
}
