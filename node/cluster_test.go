package node

import (
	"fmt"
	"slices"
	"strings"
	"testing"

	"argosy/api"
	"argosy/disk"
	"argosy/wire"
)

// cluster is all nodes of some regions, and what is under way between them.
type cluster struct {
	t                 *testing.T
	next              func(int) int
	regions, replicas int
	disks             []*disk.Disk
	nodes             []*Node // nil, if one is off
	crashed, wiped    []bool
	parcels           []api.Parcel
	now               uint64
	order             int // in which all parcels come

	logs      [][]string            // what any node has known of each log
	users     map[[2]uint64]int     // of each log and ballot, who has asked for votes under it
	offered   map[[3]uint64]string  // of each log, ballot and place, the value that was told
	decided   map[api.Tag]string    // of each try, what became of it
	rows      map[string]string     // of each number of entries of each log, what came of them
	replied   map[api.Id]api.Result // what was replied
	submitted map[api.Id]struct{}   // what was taken
	last      map[api.Id]api.Tag    // of each submission its try that isn't stale
	strict    bool                  // what voters tell is held against their disks
}

func newCluster(t *testing.T, seed uint64, regions, replicas int) *cluster {
	t.Helper()
	c := &cluster{
		t: t, next: steps(seed), regions: regions, replicas: replicas,
		logs:  make([][]string, regions+1),
		users: map[[2]uint64]int{}, offered: map[[3]uint64]string{}, decided: map[api.Tag]string{}, rows: map[string]string{},
		replied: map[api.Id]api.Result{}, submitted: map[api.Id]struct{}{}, last: map[api.Id]api.Tag{},
	}
	for me := range regions * replicas {
		d := votersDisk(t)
		c.disks = append(c.disks, d)
		c.nodes = append(c.nodes, opened(t, d, me, regions, replicas))
	}
	c.crashed, c.wiped = make([]bool, len(c.nodes)), make([]bool, len(c.nodes))
	return c
}

// behind takes what a node has sent, decided and replied in a call, and holds it against all that was before.
func (c *cluster) behind(me int) {
	c.t.Helper()
	n := c.nodes[me]
	for _, p := range n.Out() {
		c.sent(me, p)
	}
	for _, d := range n.Decided() {
		result := fmt.Sprint(d.Result)
		if was, again := c.decided[d.Tag]; again && was != result {
			c.t.Fatalf("%v: %s, and %s", d.Tag, was, result)
		}
		c.decided[d.Tag] = result
		if d.Result.Code != api.ErrStale {
			if was, again := c.last[d.Tag.Id]; again && was != d.Tag {
				c.t.Fatalf("two tries: %v, %v", was, d.Tag)
			}
			c.last[d.Tag.Id] = d.Tag
		}
	}
	for _, r := range n.Replies() {
		if _, again := c.replied[r.Id]; again || r.Id.Node != me || r.Id.Epoch != n.Epoch() {
			c.t.Fatalf("replied by %d: %v", me, r)
		}
		c.replied[r.Id] = r.Result
		if result := c.decided[c.last[r.Id]]; r.Result.Code < api.ErrLog && fmt.Sprint(r.Result) != result {
			c.t.Fatalf("replied: %v, decided: %s", r, result)
		}
	}
	for group := range c.logs {
		c.knows(me, group)
	}
	if len(n.Waiting()) == 0 {
		c.has(n)
	}
	if n.Down() {
		c.nodes[me] = nil
	}
}

// sent takes a parcel, and looks at what a voter, or one who leads, tells by it.
func (c *cluster) sent(me int, p api.Parcel) {
	c.t.Helper()
	if p.From != me || p.To == me || p.To < 0 || p.To >= len(c.nodes) {
		c.t.Fatalf("a parcel from %d: %v", me, p)
	}
	if len(c.parcels) < 4000 {
		c.parcels = append(c.parcels, p)
	}
	if p.Packet.Seq == 0 {
		return
	}
	m, err := wire.Read(p.Packet.Data)
	if err != api.OK || m.From != me || m.To != p.To {
		c.t.Fatalf("told by %d: %v, %v", me, m, err)
	}
	switch m.Kind {
	case api.MsgAsk, api.MsgTake:
		key := [2]uint64{uint64(m.Group), m.Ballot}
		if user, again := c.users[key]; again && user != me {
			c.t.Fatalf("%d and %d use the ballot %d of %d", user, me, m.Ballot, m.Group)
		}
		c.users[key] = me
		place := [3]uint64{uint64(m.Group), m.Ballot, uint64(m.Slot)}
		if was, again := c.offered[place]; m.Kind == api.MsgTake && again && was != m.Value {
			c.t.Fatalf("%d tells two values under %d at %d of %d", me, m.Ballot, m.Slot, m.Group)
		}
		if m.Kind == api.MsgTake {
			c.offered[place] = m.Value
		}
	case api.MsgPromise, api.MsgTook:
		if again := c.disks[me].Crash(nil); c.strict {
			n, err := Open(again, me, c.regions, c.replicas, 0)
			if err != api.OK || n.keeper.Promised(m.Group) < m.Ballot {
				c.t.Fatalf("%d tells %v, which doesn't last: %v", me, m, err)
			}
		}
	}
}

// knows holds what a node knows of a log against what others knew.
func (c *cluster) knows(me, group int) {
	c.t.Helper()
	got := c.nodes[me].Chosen(group)
	known := min(len(got), len(c.logs[group]))
	if !slices.Equal(got[:known], c.logs[group][:known]) {
		c.t.Fatalf("%d knows others than were chosen in %d", me, group)
	}
	c.logs[group] = append(c.logs[group], got[known:]...)
}

// has holds a node's records against those of others that were fed the same.
func (c *cluster) has(n *Node) {
	c.t.Helper()
	var fed strings.Builder
	for region := range c.regions {
		fmt.Fprint(&fed, n.Fed(region), " ")
	}
	rows := fmt.Sprint(n.Rows())
	if was, again := c.rows[fed.String()]; again && was != rows {
		c.t.Fatalf("behind %s: %s, and %s", fed.String(), was, rows)
	}
	c.rows[fed.String()] = rows
}

// call lets a node that is up do something.
func (c *cluster) call(me int, do func(n *Node)) {
	c.t.Helper()
	c.now++
	if n := c.nodes[me]; n != nil {
		do(n)
		c.behind(me)
	}
}

// come lets a parcel come.
func (c *cluster) come(k int) {
	c.t.Helper()
	p := c.parcels[k]
	c.parcels = slices.Delete(c.parcels, k, k+1)
	c.call(p.To, func(n *Node) { n.Take(p) })
}

// In which order all parcels come.
const (
	firstFirst = iota
	lastFirst
	thrownOrder
	orders
)

// comeAll lets all parcels come, those that come meanwhile, too.
func (c *cluster) comeAll() {
	c.t.Helper()
	for len(c.parcels) > 0 {
		switch c.order {
		case firstFirst:
			c.come(0)
		case lastFirst:
			c.come(len(c.parcels) - 1)
		default:
			c.come(c.next(len(c.parcels)))
		}
	}
}

// submit lets a node take some transaction.
func (c *cluster) submit(me int) {
	c.t.Helper()
	txn := c.thrown()
	c.call(me, func(n *Node) {
		if id, err := n.Submit(txn); err == api.OK {
			c.submitted[id] = struct{}{}
		}
	})
}

// thrown gives some transaction of few keys.
func (c *cluster) thrown() api.Txn {
	keys := []string{"a", "b", "c", "d", "e"}
	if c.next(5) == 0 {
		return moving(keys[c.next(len(keys))], c.next(c.regions))
	}
	t := api.Txn{Kind: api.TxRun}
	for _, key := range keys {
		switch c.next(8) {
		case 0:
			t.Reads = append(t.Reads, key)
			t.Ops = append(t.Ops, api.Op{Kind: api.OpRead, Key: key})
		case 1, 2:
			t.Writes = append(t.Writes, key)
			t.Ops = append(t.Ops, api.Op{Kind: api.OpRead, Key: key}, api.Op{Kind: api.OpAdd, Key: key, N: int64(c.next(100))})
		}
	}
	return t
}

// crash lets a node be off, and keeps some of what doesn't last.
func (c *cluster) crash(me int) {
	c.nodes[me] = nil
	var keeps []int
	for range api.MaxFiles {
		keeps = append(keeps, c.next(1000))
	}
	c.disks[me] = c.disks[me].Crash(keeps)
	c.crashed[me] = true
}

// wipe lets a node that is off have a new disk, if in none of its logs half of the members have had one.
func (c *cluster) wipe(me int) {
	region, all := 1, 1
	for node := range c.nodes {
		if c.wiped[node] && node != me {
			all++
			if node/c.replicas == me/c.replicas {
				region++
			}
		}
	}
	if 2*region < c.replicas && 2*all < len(c.nodes) {
		c.crash(me)
		c.disks[me], c.wiped[me] = newDisk(c.t), true
	}
}

// open lets a node that was crashed begin its next life.
func (c *cluster) open(me int) {
	c.t.Helper()
	c.now++
	if c.nodes[me] != nil || !c.crashed[me] {
		return
	}
	n, err := Open(c.disks[me], me, c.regions, c.replicas, c.now)
	c.crashed[me] = false
	if err == api.ErrDown {
		return
	}
	wants(c.t, "Open", err, api.OK)
	c.nodes[me] = n
	c.behind(me)
}

// step lets one thing happen; few is how many of those that lie next a parcel is one of.
func (c *cluster) step(few int) {
	c.t.Helper()
	me := c.next(len(c.nodes))
	parcel := c.next(few)
	switch kind := c.next(100); {
	case kind < 60:
		for range c.next(6) {
			if parcel < len(c.parcels) {
				c.come(parcel)
			}
		}
	case kind < 66:
		c.call(me, (*Node).Tick)
	case kind < 80:
		c.call(me, func(n *Node) { picks(n) })
	case kind < 86:
		if len(c.submitted) < 40 {
			c.submit(me)
		}
	case kind < 87:
		group := []int{me / c.replicas, c.regions}[c.next(2)]
		c.call(me, func(n *Node) { n.Lead(group) })
	case kind < 89:
		c.call(me, func(n *Node) { n.Check() })
	case kind < 91:
		if parcel < len(c.parcels) {
			c.parcels = slices.Delete(c.parcels, parcel, parcel+1)
		}
	case kind < 93:
		if parcel < len(c.parcels) && len(c.parcels) < 4000 {
			c.parcels = append(c.parcels, c.parcels[parcel])
		}
	case kind < 94:
		c.disks[me].Limit(c.next(12))
	case kind < 95:
		c.crash(me)
	case kind < 96:
		if c.nodes[me] == nil {
			c.wipe(me)
		}
	default:
		if c.nodes[me] == nil && !c.crashed[me] {
			c.crash(me)
		}
		c.open(me)
	}
}

// reign lets a member of each log begin to reign under the greatest ballot.
func (c *cluster) reign() {
	c.t.Helper()
	for group := range c.logs {
		members := c.nodes[0].logs[group].members
		me := members[c.next(len(members))]
		for c.wiped[me] {
			me = members[c.next(len(members))]
		}
		greatest := uint64(0)
		for _, n := range c.nodes {
			greatest = max(greatest, n.logs[group].seen, n.keeper.Promised(group))
		}
		// A parcel of a node that has been wiped since may tell of a ballot that nobody has seen yet.
		for key := range c.users {
			if key[0] == uint64(group) {
				greatest = max(greatest, key[1])
			}
		}
		c.nodes[me].logs[group].seen = greatest
		c.call(me, func(n *Node) { wants(c.t, "Lead", n.Lead(group), api.OK) })
	}
}

// settle lets all nodes be up, and fails, unless all comes to an end in some rounds.
func (c *cluster) settle() {
	c.t.Helper()
	for me, n := range c.nodes {
		c.disks[me].Limit(-1)
		if n == nil {
			c.crash(me)
			c.open(me)
		}
	}
	c.reign()
	for range 4 {
		c.submit(c.next(len(c.nodes)))
	}
	c.rounds(60)
}

// rounds fails, unless all comes to an end in so many rounds, or a log is full.
func (c *cluster) rounds(most int) {
	c.t.Helper()
	for range most {
		for me := range c.nodes {
			c.call(me, (*Node).Tick)
		}
		c.comeAll()
		for me := range c.nodes {
			c.call(me, func(n *Node) { picks(n) })
		}
		if c.settled() {
			return
		}
	}
	if !slices.ContainsFunc(c.logs, func(log []string) bool { return len(log) == api.MaxLog }) {
		c.t.Fatalf("not settled: logs of %d, %d entries", len(c.logs[0]), len(c.logs[c.regions]))
	}
}

// settled tells whether nothing is pending, nobody waits, and all have the same records.
func (c *cluster) settled() bool {
	return !slices.ContainsFunc(c.nodes, func(n *Node) bool {
		return len(n.Pending()) > 0 || len(n.Waiting()) > 0 || fmt.Sprint(n.Rows()) != fmt.Sprint(c.nodes[0].Rows())
	})
}

// each lets a test run with clusters of all sizes.
func each(t *testing.T, seeds int, do func(t *testing.T, seed uint64, regions, replicas int)) {
	for regions := 1; regions <= 3; regions++ {
		for _, replicas := range []int{1, 3} {
			t.Run(fmt.Sprint(regions, replicas), func(t *testing.T) {
				t.Parallel()
				for seed := range uint64(seeds) {
					do(t, seed, regions, replicas)
				}
			})
		}
	}
}

// P23.5, P23.7, P23.9: whatever becomes of parcels, disks and lives: what is chosen at a place is one, a ballot is one node's, what voters tell lasts; each try is decided alike, and all comes to an end.
func TestClusters(t *testing.T) {
	each(t, 40, func(t *testing.T, seed uint64, regions, replicas int) {
		c := newCluster(t, seed, regions, replicas)
		c.strict = seed%4 == 0
		c.order = c.next(orders)
		few := 1 + c.next(20)
		if seed%2 == 0 {
			c.reign()
		}
		for range 200 + c.next(600) {
			c.step(few)
		}
		c.settle()
	})
}

// P23.5 to P23.8: however many submissions are pending, all comes to an end: the orders that are told with each Tick don't crowd out what answers others.
func TestManyPending(t *testing.T) {
	each(t, 9, func(t *testing.T, seed uint64, regions, replicas int) {
		c := newCluster(t, seed, regions, replicas)
		c.order = int(seed) % orders
		c.reign()
		for range 50 {
			me := c.next(len(c.nodes))
			if seed%2 == 0 {
				me = len(c.nodes) - 1
			}
			txn := []api.Txn{writing("x", "a"), writing("y", "a", "b"), reading("c")}[c.next(3)]
			c.call(me, func(n *Node) { submits(t, n, txn) })
		}
		if seed%3 == 0 {
			// What nobody has taken yet fills the links, too.
			for me := range c.nodes {
				for range 6 {
					c.call(me, (*Node).Tick)
				}
			}
		}
		c.rounds(30)
		for group, log := range c.logs {
			if len(log) == api.MaxLog {
				t.Fatalf("log %d is full", group)
			}
		}
	})
}

// P23.10: once a log is led, an order goes all its way within the parcels that come, without a Tick: through the global log, too.
func TestWithoutTicks(t *testing.T) {
	each(t, 8, func(t *testing.T, seed uint64, regions, replicas int) {
		c := newCluster(t, seed, regions, replicas)
		c.reign()
		c.comeAll()
		for group, l := range c.nodes[0].logs {
			leaders := 0
			for _, me := range l.members {
				if c.nodes[me].Leads(group) {
					leaders++
				}
			}
			same(t, "leaders", leaders, 1)
		}
		for range 12 {
			me := c.next(len(c.nodes))
			c.submit(me)
			// The Tick by which the order is told.
			c.call(me, (*Node).Tick)
			c.comeAll()
			for range 3 {
				for me := range c.nodes {
					c.call(me, func(n *Node) { picks(n) })
				}
			}
			if len(c.nodes[me].Pending()) > 0 {
				t.Fatalf("seed %d: pending: %v", seed, c.nodes[me].Pending())
			}
			for _, n := range c.nodes {
				for group := range c.logs {
					same(t, "Chosen", len(n.Chosen(group)), len(c.logs[group]))
				}
			}
		}
	})
}

// P2: two runs of the same calls give the same answers.
func TestSameAnswers(t *testing.T) {
	each(t, 3, func(t *testing.T, seed uint64, regions, replicas int) {
		told := func() string {
			c := newCluster(t, 1000+seed, regions, replicas)
			c.reign()
			for range 300 {
				c.step(5)
			}
			return fmt.Sprint(c.parcels, c.logs, c.replied, c.rows, c.now)
		}
		same(t, "the second run", told(), told())
	})
}

// Example 1 of chapter 23, and examples 2 to 4 of the whole.
func TestExamples(t *testing.T) {
	_, n := alone(t)
	id := submits(t, n, writing("x", "a"))
	n.Tick()
	same(t, "Pick", n.Pick(0), true)
	same(t, "Replies", n.Replies(), []api.Reply{{Id: id}})

	c := newCluster(t, 1, 2, 1)
	c.reign()
	c.comeAll()
	left, right := c.nodes[0], c.nodes[1]
	single, both := submits(t, left, writing("x", "a")), submits(t, left, writing("y", "a", "b"))
	stale := submits(t, right, reading("b"))
	move := submits(t, left, moving("b", 1))
	c.call(1, (*Node).Tick)
	c.call(0, (*Node).Tick)
	c.comeAll()
	same(t, "entries", []int{len(left.Chosen(0)), len(left.Chosen(1)), len(left.Chosen(2))}, []int{3, 2, 2})
	c.call(0, func(n *Node) { picks(n) })
	c.call(1, func(n *Node) { picks(n) })
	same(t, "replied", c.replied, map[api.Id]api.Result{single: {}, both: {}, move: {}, stale: {Outs: []api.Out{{}}}})
	again := submits(t, right, reading("b"))
	late := submits(t, left, moving("b", 0))
	c.call(0, (*Node).Tick)
	c.comeAll()
	// The move is chosen by now, but the node hasn't done it yet.
	c.call(1, (*Node).Tick)
	c.comeAll()
	for range 2 {
		c.call(0, func(n *Node) { picks(n) })
		c.call(1, func(n *Node) { picks(n) })
	}
	same(t, "late", c.replied[late], api.Result{})
	same(t, "decided", c.decided[api.Tag{Id: again}], fmt.Sprint(api.Result{Code: api.ErrStale}))
	c.call(1, (*Node).Tick)
	c.comeAll()
	c.call(1, func(n *Node) { picks(n) })
	same(t, "again", c.replied[again], api.Result{Outs: []api.Out{{Has: true, Value: []byte("y")}}})
}
