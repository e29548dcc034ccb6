package sched

import (
	"fmt"
	"slices"
	"testing"

	"argosy/api"
	"argosy/eval"
	"argosy/order"
	"argosy/split"
)

// logs are the global log and those of three regions, as orders come into them.
type logs struct {
	global  []api.Order
	regions [3][]api.Item
	under   []api.Order // on their way into a log
}

// comes lets an order that is on its way come into its log, which has room; some come once more.
func (l *logs) comes(next func(int) int) {
	if len(l.under) == 0 {
		return
	}
	at := next(len(l.under))
	o := l.under[at]
	if next(4) > 0 {
		l.under = slices.Delete(l.under, at, at+1)
	}
	if order.Single(o) {
		home := order.Homes(o)[0]
		l.regions[home] = append(l.regions[home], run(o))
	} else {
		l.global = append(l.global, o)
	}
}

// parts lets the next piece come into a region's log, if there is one.
func (l *logs) parts(region int) bool {
	last := -1
	for _, i := range l.regions[region] {
		if i.Kind == api.ItPiece {
			last = i.Index
		}
	}
	next, ok := split.Next(l.global, region, last)
	if ok {
		l.regions[region] = append(l.regions[region], next)
	}
	return ok
}

// counts tells how many entries there are.
func (l *logs) counts() []int {
	return []int{len(l.regions[0]), len(l.regions[1]), len(l.regions[2]), len(l.global)}
}

// node reads the logs, and perhaps writes orders by the records that it has.
type node struct {
	me    int
	sched *Sched
	made  []api.Decision
	txns  []api.Txn // by Seq, from 1 on
}

// picks feeds the next entry of a region's log, if there is one.
func (n *node) picks(l *logs, region int) bool {
	at := n.sched.Fed(region)
	if at == len(l.regions[region]) {
		return false
	}
	n.made = append(n.made, n.sched.Feed(region, l.regions[region][at])...)
	return true
}

// rests goes on as what is restored of its snapshot, if there is one.
func (n *node) rests(t *testing.T) {
	if data, err := n.sched.Snapshot(); err == api.OK {
		n.sched = restored(t, data, 3)
	}
}

// stale gives the next try of the last one of its own submissions that was stale, if there is one; once.
func (n *node) stale() (api.Tag, bool) {
	for at, d := range slices.Backward(n.made) {
		if d.Tag.Id.Node == n.me && d.Result.Code == api.ErrStale && d.Tag.Try < api.MaxTries-1 {
			n.made = slices.Delete(n.made, at, at+1)
			return api.Tag{Id: d.Tag.Id, Try: d.Tag.Try + 1}, true
		}
	}
	return api.Tag{}, false
}

// orders sends an order, by its records: at times of one that was stale, else of a new transaction.
func (n *node) orders(l *logs, next func(int) int) {
	tag, again := api.Tag{}, false
	if next(2) == 0 {
		tag, again = n.stale()
	}
	if !again {
		n.txns = append(n.txns, thrownTxn(next))
		tag = tagOf(n.me, 1, uint64(len(n.txns)), 0)
	}
	l.under = append(l.under, n.sched.Make(tag, n.txns[tag.Id.Seq-1]))
}

// thrownTxn gives a transaction over a few keys, right for three regions.
func thrownTxn(next func(int) int) api.Txn {
	all := []string{"a", "b", "c", "d"}
	if next(4) == 0 {
		return api.Txn{Kind: api.TxMove, Writes: []string{all[next(4)]}, To: next(3)}
	}
	txn := api.Txn{Kind: api.TxRun}
	for _, key := range all {
		switch next(6) {
		case 0:
			txn.Reads = append(txn.Reads, key)
			txn.Ops = append(txn.Ops, api.Op{Kind: api.OpRead, Key: key})
		case 1, 2:
			txn.Writes = append(txn.Writes, key)
			ops := []api.Op{
				{Kind: api.OpAdd, Key: key, N: int64(1 + next(3))}, {Kind: api.OpWrite, Key: key, Value: eval.Value(int64(next(9)))}, {Kind: api.OpDelete, Key: key},
				{Kind: api.OpAbsent, Key: key}, {Kind: api.OpCheck, Key: key, Value: eval.Value(1)},
			}
			txn.Ops = append(txn.Ops, ops[[]int{0, 0, 0, 0, 1, 1, 2, 3, 4}[next(9)]], api.Op{Kind: api.OpRead, Key: key})
		}
	}
	return txn
}

// thrownLogs gives logs that came to be while three nodes read them, each at its own pace.
func thrownLogs(t *testing.T, next func(int) int) *logs {
	t.Helper()
	l := &logs{}
	var nodes []*node
	for me := range 3 {
		nodes = append(nodes, &node{me: me, sched: began(t, 3)})
	}
	for range 400 {
		n := nodes[next(3)]
		switch next(8) {
		case 0:
			if slices.Max(l.counts()) < 30 {
				n.orders(l, next)
			}
		case 1, 2:
			if slices.Max(l.counts()) < 30 {
				l.comes(next)
			}
		case 3:
			l.parts(next(3))
		case 4:
			n.rests(t)
		default:
			n.picks(l, next(3))
		}
	}
	for region := range 3 {
		for l.parts(region) {
		}
	}
	return l
}

// ways gives different functions that tell which region's log a node goes on with: one log ahead of the others, or now this one and now that.
func ways(next func(int) int) []func() int {
	var all []func() int
	for _, row := range [][]int{{0, 1, 2}, {0, 2, 1}, {1, 0, 2}, {1, 2, 0}, {2, 0, 1}, {2, 1, 0}} {
		turn := 0
		all = append(all, func() int { turn++; return row[turn/200%3] }, func() int { turn++; return row[turn%3] })
	}
	for range 6 {
		all = append(all, func() int { return next(3) })
	}
	return all
}

// agreed is what nodes have told so far.
type agreed struct {
	results map[api.Tag]string
	rows    map[[3]int]string // by how much was fed, where nobody waited
	met     int
}

// hears fails, unless a node agrees with what was told.
func (a *agreed) hears(t *testing.T, n *node, from int) {
	t.Helper()
	for _, d := range n.made[from:] {
		result := fmt.Sprint(d.Result)
		if told, again := a.results[d.Tag]; again && told != result {
			t.Fatalf("the result of %v: %s, and %s at another node", d.Tag, result, told)
		}
		a.results[d.Tag] = result
	}
	if len(n.sched.Waiting()) > 0 {
		return
	}
	counts := [3]int{n.sched.Fed(0), n.sched.Fed(1), n.sched.Fed(2)}
	rows := fmt.Sprint(n.sched.Rows())
	if told, again := a.rows[counts]; again {
		a.met++
		if told != rows {
			t.Fatalf("the records behind %v: %s, and %s at another node", counts, rows, told)
		}
	}
	a.rows[counts] = rows
}

// reads lets a node read all logs in its way.
func reads(t *testing.T, l *logs, a *agreed, way func() int, rests bool) *node {
	t.Helper()
	n := &node{sched: began(t, 3)}
	for range 2000 {
		before := len(n.made)
		if !n.picks(l, way()) {
			continue
		}
		a.hears(t, n, before)
		if rests {
			n.rests(t)
		}
	}
	fed(t, n.sched, l.counts()[:3]...)
	return n
}

// P17.6: however nodes interleave the logs, also with rests, they decide alike, and come to the same records; in the end nobody waits, and each try was decided once.
func TestAlike(t *testing.T) {
	next := steps(1)
	codes, met := map[api.Errno]int{}, 0
	for range 60 {
		l := thrownLogs(t, next)
		a := &agreed{results: map[api.Tag]string{}, rows: map[[3]int]string{}}
		for i, way := range ways(next) {
			n := reads(t, l, a, way, i%3 == 0)
			var tags []string
			for _, d := range n.made {
				tags = append(tags, fmt.Sprint(d.Tag))
				codes[d.Result.Code]++
			}
			slices.Sort(tags)
			if len(n.sched.Waiting()) > 0 || len(slices.Compact(tags)) != len(a.results) || len(tags) != len(a.results) {
				t.Fatalf("way %d: %v wait, %d decided, %d elsewhere", i, n.sched.Waiting(), len(tags), len(a.results))
			}
		}
		met += a.met
	}
	if codes[api.OK] < 9000 || codes[api.ErrAbort] < 900 || codes[api.ErrStale] < 9000 || met < 1500 {
		t.Errorf("only %v decisions, %d times the same records", codes, met)
	}
}
