package node

import (
	"math"
	"testing"

	"argosy/api"
	"argosy/durable"
	"argosy/sched"
	"argosy/snap"
)

// refused fails, unless Open answers an error, and nothing else.
func refused(t *testing.T, n *Node, err, want api.Errno) {
	t.Helper()
	if n != nil || err != want {
		t.Fatalf("Open: %v, %v, want %v", n, err, want)
	}
}

// P23.1: regions are 1 to 3, replicas 1 or 3, and me is one of the nodes.
func TestConfig(t *testing.T) {
	numbers := []int{math.MinInt, -3, -2, -1, 0, 1, 2, 3, 4, 5, 6, 8, 9, 10, math.MaxInt}
	for _, regions := range numbers {
		for _, replicas := range numbers {
			for _, me := range numbers {
				d := votersDisk(t)
				n, err := Open(d, me, regions, replicas, 0)
				right := regions >= 1 && regions <= 3 && (replicas == 1 || replicas == 3) && me >= 0 && me < regions*replicas
				if right && (n == nil || err != api.OK) {
					t.Errorf("%d of %d, %d: %v", me, regions, replicas, err)
				}
				if !right {
					refused(t, n, err, api.ErrConfig)
					same(t, "files", d.Names(), []string{"life"})
				}
			}
		}
	}
}

// P23.1: layer 22's errors come behind ErrConfig.
func TestOpenErrors(t *testing.T) {
	d := votersDisk(t)
	n, err := Open(d, 0, 1, 1, math.MaxUint64)
	refused(t, n, err, api.ErrOver)
	wants(t, "Append", d.Append("life", []byte("x")), api.OK)
	n, err = Open(d, 0, 1, 1, 0)
	refused(t, n, err, api.ErrTorn)
	n, err = Open(d, 0, 1, 2, 0)
	refused(t, n, err, api.ErrConfig)
	d = votersDisk(t)
	wants(t, "Append", d.Append("g30", frame(t, "no record")), api.OK)
	n, err = Open(d, 0, 3, 1, 0)
	refused(t, n, err, api.ErrForm)
	d = votersDisk(t)
	d.Limit(0)
	n, err = Open(d, 0, 1, 1, 0)
	refused(t, n, err, api.ErrDown)
	n, err = Open(d, 0, 0, 1, 0)
	refused(t, n, err, api.ErrConfig)
}

// P23.1: what a node begins with.
func TestBeginning(t *testing.T) {
	n := opened(t, votersDisk(t), 4, 3, 3)
	for group := -1; group < 5; group++ {
		leads(t, n, group, false)
		same(t, "Chosen", n.Chosen(group), []string{})
		same(t, "Fed", n.Fed(group), 0)
		same(t, "Pick", n.Pick(group), false)
	}
	same(t, "Rows", n.Rows(), []api.Row{})
	same(t, "Waiting", n.Waiting(), []api.Tag{})
	same(t, "Pending", n.Pending(), []api.Id{})
	same(t, "Out", n.Out(), []api.Parcel{})
	same(t, "Replies", n.Replies(), []api.Reply{})
	same(t, "Decided", n.Decided(), []api.Decision{})
	same(t, "Down", n.Down(), false)
}

// P23.1: Epoch is the number of the life, behind the clock too.
func TestEpoch(t *testing.T) {
	d := votersDisk(t)
	for i, clock := range []uint64{0, 0, 7, 3, 1 << 40} {
		n, err := Open(d, 0, 1, 1, clock)
		wants(t, "Open", err, api.OK)
		want := []uint64{1, 2, 8, 9, 1<<40 + 1}[i]
		same(t, "Epoch", n.Epoch(), want)
		id := submits(t, n, reading("a"))
		same(t, "Id", id, api.Id{Node: 0, Epoch: want, Seq: 1})
	}
	n, err := Open(newDisk(t), 0, 1, 1, 7)
	wants(t, "Open", err, api.OK)
	same(t, "Epoch", n.Epoch(), uint64(8))
}

// P23.1: the groups are me's region, and the global log: what was promised there is known.
func TestGroups(t *testing.T) {
	for me := range 9 {
		d := votersDisk(t)
		k, err := durable.Open(d, []int{me / 3, 3}, 0)
		wants(t, "durable.Open", err, api.OK)
		for _, group := range []int{me / 3, 3} {
			if _, ok, err := k.Promise(group, 1000, 0); !ok || err != api.OK {
				t.Fatal(err)
			}
		}
		o := play(t, opened(t, d, me, 3, 3), me, 9)
		for _, group := range []int{me / 3, 3} {
			begins(t, o.n, group)
			for node := range 9 {
				for _, m := range only(o.told(node), api.MsgAsk) {
					if m.Ballot <= 1000 {
						t.Errorf("%d: ballot %d", me, m.Ballot)
					}
				}
			}
		}
	}
}

// worked gives the disk of a node that has done something, Checked that, and done something more.
func worked(t *testing.T) (rows []api.Row, made func(keeps []int) *Node) {
	t.Helper()
	d, n := alone(t)
	submits(t, n, writing("x", "a"))
	submits(t, n, moving("a", 0))
	submits(t, n, writing("y", "b"))
	n.Tick()
	same(t, "picked", picks(n), 3)
	same(t, "replied", len(n.Replies()), 3)
	wants(t, "Check", n.Check(), api.OK)
	rows = n.Rows()
	submits(t, n, writing("z", "c"))
	n.Tick()
	same(t, "picked", picks(n), 1)
	submits(t, n, reading("c"))
	return rows, func(keeps []int) *Node { return opened(t, d.Crash(keeps), 0, 1, 1) }
}

// P23.1: the sched is the one that was kept; what is chosen has to be learned once more, and no submission is pending.
func TestRestored(t *testing.T) {
	rows, again := worked(t)
	n := again(nil)
	same(t, "Rows", n.Rows(), rows)
	same(t, "Fed", n.Fed(0), 3)
	same(t, "Chosen", len(n.Chosen(0))+len(n.Chosen(1)), 0)
	same(t, "Pending", n.Pending(), []api.Id{})
	leads(t, n, 0, false)
	same(t, "Pick", n.Pick(0), false)
	begins(t, n, 0)
	same(t, "Chosen", len(n.Chosen(0)), 4)
	same(t, "picked", picks(n), 1)
	same(t, "Rows", n.Rows(), append(rows, api.Row{Key: "c", Record: api.Record{Has: true, Value: []byte("z")}}))
	same(t, "Decided", n.Decided(), []api.Decision{{Tag: tagOf(0, 4)}})
	same(t, "Replies", n.Replies(), []api.Reply{})
}

// P23.1: the sched is a new one, if none was kept, or it can't be read.
func TestNewSched(t *testing.T) {
	_, n := alone(t)
	submits(t, n, writing("x", "a"))
	n.Tick()
	picks(n)
	two, err := sched.New(2)
	wants(t, "sched.New", err, api.OK)
	other, err := two.Snapshot()
	wants(t, "Snapshot", err, api.OK)
	for _, state := range [][]byte{nil, {}, []byte("no sched"), other} {
		d, n := alone(t)
		submits(t, n, writing("x", "a"))
		n.Tick()
		picks(n)
		wants(t, "Check", n.Check(), api.OK)
		wants(t, "Save", snap.Save(d, "state", state), api.OK)
		if state == nil {
			// A torn file is no checkpoint.
			wants(t, "Append", d.Append("state", []byte("x")), api.OK)
		}
		n = opened(t, d, 0, 1, 1)
		same(t, "Fed", n.Fed(0), 0)
		same(t, "Rows", n.Rows(), []api.Row{})
		begins(t, n, 0)
		same(t, "picked", picks(n), 1)
		same(t, "Rows", n.Rows(), []api.Row{{Key: "a", Record: api.Record{Has: true, Value: []byte("x")}}})
	}
	d, n := alone(t)
	submits(t, n, writing("x", "a"))
	n.Tick()
	picks(n)
	same(t, "Fed", opened(t, d, 0, 1, 1).Fed(0), 0)
}

// downAll fails, unless a node is down, and does nothing any more.
func downAll(t *testing.T, o *others) {
	t.Helper()
	n := o.n
	same(t, "Down", n.Down(), true)
	n.Out()
	decided, fed := n.Decided(), n.Fed(0)
	n.Tick()
	for group := -1; group < 4; group++ {
		wants(t, "Lead", n.Lead(group), api.ErrStep)
		same(t, "Pick", n.Pick(group), false)
	}
	wants(t, "Check", n.Check(), api.ErrDown)
	for from := range 3 {
		n.Take(api.Parcel{From: from, To: o.me, Packet: api.Packet{Epoch: 99}})
	}
	same(t, "Out", n.Out(), []api.Parcel{})
	same(t, "Fed", n.Fed(0), fed)
	same(t, "Decided", n.Decided(), []api.Decision{})
	same(t, "decided", decided, []api.Decision{})
	id := submits(t, n, reading("a"))
	same(t, "Pending", n.Pending(), []api.Id{id})
}

// P23.1: by whichever call the disk has answered ErrDown, the node is down: Tick, Take and Pick do nothing any more.
func TestDown(t *testing.T) {
	entry := run(t, orderOf(t, 1, tagOf(1, 1), writing("x", "a")))
	calls := []func(o *others){
		func(o *others) { wants(t, "Lead", o.n.Lead(0), api.ErrDown) },
		func(o *others) { wants(t, "Check", o.n.Check(), api.ErrDown) },
		func(o *others) { o.say(ask(1, 0, 5, 0)) },
		func(o *others) { o.say(ask(2, 1, 5, 0)) },
		func(o *others) { o.say(take(1, 0, 5, 0, "x")) },
	}
	for i, call := range calls {
		for limit := range 2 {
			d, n, o := played(t, 0, 1, 3)
			o.say(chosen(1, 0, 0, entry))
			same(t, "Down", n.Down(), false)
			d.Limit(limit)
			call(o)
			leads(t, n, 0, false)
			for node := range 3 {
				same(t, "answers", len(only(o.told(node), api.MsgPromise))+len(only(o.heard[node], api.MsgTook)), 0)
			}
			if !n.Down() {
				t.Errorf("call %d isn't down", i)
			}
			downAll(t, o)
		}
	}
}

// P23.1: Check of a node that is down is ErrDown, also while a try waits.
func TestDownAndBusy(t *testing.T) {
	d, n, o := played(t, 1, 2, 3)
	o.say(chosen(0, 0, 0, piece(t, 0, orderOf(t, 2, tagOf(4, 1), reading("a", "b")))))
	same(t, "picked", picks(n), 1)
	wants(t, "Check", n.Check(), api.ErrBusy)
	d.Limit(0)
	wants(t, "Check", n.Check(), api.ErrBusy)
	wants(t, "Lead", n.Lead(0), api.ErrDown)
	wants(t, "Check", n.Check(), api.ErrDown)
}

// P23.1: other errors of the disk don't let a node be down.
func TestFullIsNotDown(t *testing.T) {
	d, n, o := played(t, 0, 1, 3)
	wants(t, "Append", d.Append("stone", make([]byte, api.MaxRoom-d.Used())), api.OK)
	wants(t, "Lead", n.Lead(0), api.ErrFull)
	leads(t, n, 0, false)
	wants(t, "Check", n.Check(), api.ErrFull)
	o.say(ask(1, 0, 5, 0))
	o.silent()
	same(t, "Down", n.Down(), false)
	wants(t, "Remove", d.Remove("stone"), api.OK)
	o.say(ask(1, 0, 5, 0))
	o.hears([]int{1}, promise(0, 0, 5))
	wants(t, "Lead", n.Lead(0), api.OK)
	wants(t, "Check", n.Check(), api.OK)
}
