package node

import (
	"slices"

	"argosy/api"
	"argosy/filter"
	"argosy/learn"
	"argosy/order"
)

// log is what the node knows of one.
type log struct {
	number, regions int
	members         []int // by their numbers as voters
	known           *learn.Chosen[string]
	seen            uint64 // the greatest ballot of which a message told
	reign           *reign // the node's own; nil, if it doesn't reign

	// What the first entries say, as many as were read.
	read   int
	filter *filter.Filter
	orders []api.Order // of the global log, by places
}

// newLogs gives all logs of so many regions, of which nothing is known.
func newLogs(regions, replicas int) []*log {
	var all []*log
	for region := range regions {
		members := span(region*replicas, replicas)
		all = append(all, newLog(region, regions, members, filter.Region(region)))
	}
	everybody := span(0, regions*replicas)
	return append(all, newLog(regions, regions, everybody, filter.Global()))
}

func newLog(number, regions int, members []int, f *filter.Filter) *log {
	return &log{number: number, regions: regions, members: members, known: learn.New[string](), filter: f}
}

// span gives so many numbers from the first one on.
func span(first, count int) []int {
	var all []int
	for i := range count {
		all = append(all, first+i)
	}
	return all
}

// logOf gives the number of an order's log.
func logOf(o api.Order, regions int) int {
	if order.Single(o) {
		return order.Homes(o)[0]
	}
	return regions
}

// readOrder gives an order of so many regions.
func readOrder(entry string, regions int) (api.Order, bool) {
	o, err := order.Read([]byte(entry))
	return o, err == api.OK && order.Check(o, regions) == api.OK
}

// readItem gives an item of so many regions.
func readItem(entry string, regions int) (api.Item, bool) {
	i, err := order.ReadItem([]byte(entry))
	return i, err == api.OK && order.Check(i.Order, regions) == api.OK
}

// isGlobal tells whether it is the global log.
func (l *log) isGlobal() bool {
	return l.number == l.regions
}

// has tells whether a node is a member.
func (l *log) has(node int) bool {
	return slices.Contains(l.members, node)
}

// isFull tells whether all places are known.
func (l *log) isFull() bool {
	return l.known.Len() == api.MaxLog
}

// leads tells whether the node leads the log.
func (l *log) leads() bool {
	return l.reign != nil && l.reign.Leads()
}

// under gives the reign, if it is one under this ballot.
func (l *log) under(ballot uint64) (*reign, bool) {
	return l.reign, l.reign != nil && l.reign.ballot == ballot
}

// see takes a ballot of which a message told: a reign ends by a greater one.
func (l *log) see(ballot uint64) {
	l.seen = max(l.seen, ballot)
	if l.reign != nil && ballot > l.reign.ballot {
		l.reign = nil
	}
}

// came tells whether a try's order is in the log.
func (l *log) came(tag api.Tag) bool {
	l.catchUp()
	return l.filter.Has(tag)
}

// last gives the last piece that counts in the log.
func (l *log) last() int {
	l.catchUp()
	return l.filter.Last()
}

// placed gives the orders of the global log, by places.
func (l *log) placed() []api.Order {
	l.catchUp()
	return l.orders
}

// catchUp reads the entries that have become known since it did last, up to the first one that isn't.
func (l *log) catchUp() {
	for _, entry := range l.known.From(l.read, api.MaxLog) {
		l.read++
		if l.isGlobal() {
			l.place(entry)
		} else {
			// What can't be read is no item, which doesn't count either.
			i, _ := order.ReadItem([]byte(entry))
			l.filter.Item(i)
		}
	}
}

// place reads an entry of the global log. One that is no order keeps its place: a single order stands for it, which doesn't count there, so that it has no pieces.
func (l *log) place(entry string) {
	o, ok := readOrder(entry, l.regions)
	if !ok {
		o = api.Order{Txn: api.Txn{Kind: api.TxRun}}
	}
	l.filter.Order(o)
	l.orders = append(l.orders, o)
}
