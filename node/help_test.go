package node

import (
	"fmt"
	"slices"
	"testing"

	"argosy/api"
	"argosy/code"
	"argosy/disk"
	"argosy/durable"
	"argosy/link"
	"argosy/order"
	"argosy/sched"
	"argosy/wire"
)

// At the beginning, of two regions, b and d are at home in 0, a and c in 1; of three, c and f in 0, a and d in 1, b and e in 2.

// steps is a row of numbers that looks thrown, and is the same in each run.
func steps(seed uint64) func(below int) int {
	return func(below int) int {
		seed = seed*6364136223846793005 + 1442695040888963407
		return int(seed>>33) % below
	}
}

// wants fails, unless a call has answered what it should.
func wants(t *testing.T, call string, got, want api.Errno) {
	t.Helper()
	if got != want {
		t.Fatalf("%s: %v, want %v", call, got, want)
	}
}

// same fails, unless two things are told alike. (So a nil list and an empty one are.)
func same(t *testing.T, what string, got, want any) {
	t.Helper()
	if g, w := fmt.Sprint(got), fmt.Sprint(want); g != w {
		t.Fatalf("%s: %.2000s\nwant %.2000s", what, g, w)
	}
}

// newDisk gives a disk without files: that of a node that has been wiped.
func newDisk(t *testing.T) *disk.Disk {
	t.Helper()
	d, err := disk.New(api.MaxRoom)
	wants(t, "disk.New", err, api.OK)
	return d
}

// votersDisk gives the disk of a voter.
func votersDisk(t *testing.T) *disk.Disk {
	t.Helper()
	d := newDisk(t)
	wants(t, "Format", durable.Format(d), api.OK)
	return d
}

// opened opens a node with clock 0, and fails if that is refused.
func opened(t *testing.T, d *disk.Disk, me, regions, replicas int) *Node {
	t.Helper()
	n, err := Open(d, me, regions, replicas, 0)
	if n == nil || err != api.OK {
		t.Fatalf("Open: %v", err)
	}
	return n
}

// leads fails, unless a node leads a log, or doesn't.
func leads(t *testing.T, n *Node, group int, want bool) {
	t.Helper()
	if got := n.Leads(group); got != want {
		t.Fatalf("Leads of %d: %v", group, got)
	}
}

// begins lets a node begin to reign in a log.
func begins(t *testing.T, n *Node, group int) {
	t.Helper()
	wants(t, "Lead", n.Lead(group), api.OK)
}

// alone gives the only node of a region, which leads both logs.
func alone(t *testing.T) (*disk.Disk, *Node) {
	t.Helper()
	d := votersDisk(t)
	n := opened(t, d, 0, 1, 1)
	begins(t, n, 0)
	begins(t, n, 1)
	return d, n
}

// submits submits a transaction, which must be taken.
func submits(t *testing.T, n *Node, txn api.Txn) api.Id {
	t.Helper()
	id, err := n.Submit(txn)
	wants(t, "Submit", err, api.OK)
	return id
}

// picks feeds all that a node can be fed, and tells how much that was.
func picks(n *Node) int {
	count := 0
	for region := 0; region < api.MaxRegions; region++ {
		for n.Pick(region) {
			count++
		}
	}
	return count
}

// writing gives a transaction that lets keys have a value.
func writing(value string, keys ...string) api.Txn {
	t := api.Txn{Kind: api.TxRun, Writes: keys}
	for _, key := range keys {
		t.Ops = append(t.Ops, api.Op{Kind: api.OpWrite, Key: key, Value: []byte(value)})
	}
	return t
}

// reading gives a transaction that puts out what keys have.
func reading(keys ...string) api.Txn {
	t := api.Txn{Kind: api.TxRun, Reads: keys}
	for _, key := range keys {
		t.Ops = append(t.Ops, api.Op{Kind: api.OpRead, Key: key})
	}
	return t
}

// moving gives a transaction that gives a key another home.
func moving(key string, to int) api.Txn {
	return api.Txn{Kind: api.TxMove, Writes: []string{key}, To: to}
}

// tagOf names the first try of a submission of a node's first life.
func tagOf(node int, seq uint64) api.Tag {
	return api.Tag{Id: api.Id{Node: node, Epoch: 1, Seq: seq}}
}

// orderOf gives the order of a try, by the keys' homes at the beginning.
func orderOf(t *testing.T, regions int, tag api.Tag, txn api.Txn) api.Order {
	t.Helper()
	s, err := sched.New(regions)
	wants(t, "sched.New", err, api.OK)
	return s.Make(tag, txn)
}

// bytesOf gives an order's bytes.
func bytesOf(t *testing.T, o api.Order) string {
	t.Helper()
	b, err := order.Write(o)
	wants(t, "order.Write", err, api.OK)
	return string(b)
}

// run gives the bytes of the item of a single order.
func run(t *testing.T, o api.Order) string {
	t.Helper()
	b, err := order.WriteItem(api.Item{Kind: api.ItRun, Order: o})
	wants(t, "order.WriteItem", err, api.OK)
	return string(b)
}

// piece gives the bytes of an order's piece.
func piece(t *testing.T, index int, o api.Order) string {
	t.Helper()
	b, err := order.WriteItem(api.Item{Kind: api.ItPiece, Index: index, Order: o})
	wants(t, "order.WriteItem", err, api.OK)
	return string(b)
}

// others are the nodes beside one, played by a test: each has its link to that.
type others struct {
	t     *testing.T
	n     *Node
	me    int
	links []*link.Link
	heard [][]api.Message // by nodes
}

// play gives the others beside a node; their lives are 11, 12 ..
func play(t *testing.T, n *Node, me, nodes int) *others {
	t.Helper()
	o := &others{t: t, n: n, me: me, heard: make([][]api.Message, nodes)}
	for node := range nodes {
		o.links = append(o.links, link.New(uint64(11+node)))
	}
	return o
}

// played gives a voter among so many regions and replicas, and the others beside it.
func played(t *testing.T, me, regions, replicas int) (*disk.Disk, *Node, *others) {
	t.Helper()
	d := votersDisk(t)
	n := opened(t, d, me, regions, replicas)
	return d, n, play(t, n, me, regions*replicas)
}

// say lets others tell the node messages, each from its From.
func (o *others) say(all ...api.Message) {
	o.t.Helper()
	for _, m := range all {
		m.To = o.me
		o.send(m.From, written(o.t, m))
	}
}

// written gives a message's bytes.
func written(t *testing.T, m api.Message) []byte {
	t.Helper()
	data, err := wire.Write(m)
	wants(t, "wire.Write", err, api.OK)
	return data
}

// send lets another node send bytes over its link.
func (o *others) send(from int, data []byte) {
	o.t.Helper()
	at := o.links[from]
	wants(o.t, "Send", at.Send(data), api.OK)
	// With a life that isn't known the first packet is a hello.
	for range 2 {
		for _, p := range at.Packets() {
			o.n.Take(api.Parcel{From: from, To: o.me, Packet: p})
		}
		o.hear()
	}
	if at.Open() > 0 && !o.n.Down() {
		o.t.Fatalf("%d data aren't acknowledged", at.Open())
	}
}

// hear lets the others take what the node sends, until it sends no more.
func (o *others) hear() {
	o.t.Helper()
	for {
		parcels := o.n.Out()
		if len(parcels) == 0 {
			return
		}
		for _, p := range parcels {
			o.take(p)
		}
	}
}

// take lets another node take a parcel.
func (o *others) take(p api.Parcel) {
	o.t.Helper()
	if p.From != o.me || p.To == o.me {
		o.t.Fatalf("a parcel from %d to %d", p.From, p.To)
	}
	came, answers := o.links[p.To].Receive(p.Packet)
	for _, data := range came {
		m, err := wire.Read(data)
		if err != api.OK || m.From != o.me || m.To != p.To {
			o.t.Fatalf("%v, %v", m, err)
		}
		o.heard[p.To] = append(o.heard[p.To], m)
	}
	for _, answer := range answers {
		o.n.Take(api.Parcel{From: p.To, To: o.me, Packet: answer})
	}
}

// told gives what a node has heard since this was asked last.
func (o *others) told(node int) []api.Message {
	o.t.Helper()
	o.hear()
	all := o.heard[node]
	o.heard[node] = nil
	return all
}

// forget lets all that was heard be asked for no more.
func (o *others) forget() {
	o.t.Helper()
	o.hear()
	clear(o.heard)
}

// hears fails, unless nodes have heard just these messages, each the same ones.
func (o *others) hears(nodes []int, want ...api.Message) {
	o.t.Helper()
	for _, node := range nodes {
		for i := range want {
			want[i].From, want[i].To = o.me, node
		}
		same(o.t, fmt.Sprintf("heard by %d", node), o.told(node), want)
	}
}

// silent fails, if anybody has heard anything.
func (o *others) silent() {
	o.t.Helper()
	o.hear()
	for node := range o.heard {
		o.hears([]int{node})
	}
}

// only gives those of messages that have a kind.
func only(all []api.Message, kind int) []api.Message {
	return slices.DeleteFunc(slices.Clone(all), func(m api.Message) bool { return m.Kind != kind })
}

// The messages of these tests, of which some fields are set when they are told.

func ask(from, group int, ballot uint64, slot int) api.Message {
	return api.Message{Kind: api.MsgAsk, From: from, Group: group, Ballot: ballot, Slot: slot}
}

func promise(from, group int, ballot uint64, votes ...api.Vote[string]) api.Message {
	return api.Message{Kind: api.MsgPromise, From: from, Group: group, Ballot: ballot, Votes: votes}
}

func take(from, group int, ballot uint64, slot int, value string) api.Message {
	return api.Message{Kind: api.MsgTake, From: from, Group: group, Ballot: ballot, Slot: slot, Value: value}
}

func took(from, group int, ballot uint64, slot int) api.Message {
	return api.Message{Kind: api.MsgTook, From: from, Group: group, Ballot: ballot, Slot: slot}
}

func higher(from, group int, ballot uint64) api.Message {
	return api.Message{Kind: api.MsgHigher, From: from, Group: group, Ballot: ballot}
}

func chosen(from, group, slot int, value string) api.Message {
	return api.Message{Kind: api.MsgChosen, From: from, Group: group, Slot: slot, Value: value}
}

func need(from, group, slot int) api.Message {
	return api.Message{Kind: api.MsgNeed, From: from, Group: group, Slot: slot}
}

func telling(from, group int, value string) api.Message {
	return api.Message{Kind: api.MsgOrder, From: from, Group: group, Value: value}
}

func full(from, group int, value string) api.Message {
	return api.Message{Kind: api.MsgFull, From: from, Group: group, Value: value}
}

func vote(slot int, ballot uint64, value string) api.Vote[string] {
	return api.Vote[string]{Slot: slot, Ballot: ballot, Value: value}
}

// frame gives the frame of a record.
func frame(t *testing.T, record string) []byte {
	t.Helper()
	b, err := code.Frame([]byte(record))
	wants(t, "Frame", err, api.OK)
	return b
}
