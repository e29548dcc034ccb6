package sched

import (
	"fmt"
	"slices"
	"testing"

	"argosy/api"
	"argosy/eval"
)

// At the beginning, of three regions, c is at home in 0, a in 1, b in 2, d in 1.

// began gives a Sched to which nothing was fed.
func began(t *testing.T, regions int) *Sched {
	t.Helper()
	s, err := New(regions)
	if s == nil || err != api.OK {
		t.Fatalf("New(%d): %v", regions, err)
	}
	return s
}

func tagOf(node int, epoch, seq uint64, try int) api.Tag {
	return api.Tag{Id: api.Id{Node: node, Epoch: epoch, Seq: seq}, Try: try}
}

// numbered gives a tag that differs from others by its Seq alone.
func numbered(seq uint64) api.Tag {
	return tagOf(0, 1, seq, 0)
}

// numberedAll gives the tags of some numbers, in their order.
func numberedAll(seqs ...uint64) []api.Tag {
	var tags []api.Tag
	for _, seq := range seqs {
		tags = append(tags, numbered(seq))
	}
	return tags
}

func mark(key string, home int, count uint64) api.Mark {
	return api.Mark{Key: key, Home: home, Count: count}
}

// adding gives the order of a run that adds 1 to each of its marks' keys, and puts out what they have then.
func adding(seq uint64, marks ...api.Mark) api.Order {
	o := api.Order{Tag: numbered(seq), Txn: api.Txn{Kind: api.TxRun}, Marks: marks}
	for _, m := range marks {
		o.Txn.Writes = append(o.Txn.Writes, m.Key)
		o.Txn.Ops = append(o.Txn.Ops, api.Op{Kind: api.OpAdd, Key: m.Key, N: 1}, api.Op{Kind: api.OpRead, Key: m.Key})
	}
	return o
}

// giving up is an order of a run that writes, and then gives up.
func givingUp(seq uint64, m api.Mark) api.Order {
	o := adding(seq, m)
	o.Txn.Ops = append(o.Txn.Ops, api.Op{Kind: api.OpAbsent, Key: m.Key})
	return o
}

// moving gives the order of a move of a mark's key.
func moving(seq uint64, to int, m api.Mark) api.Order {
	return api.Order{
		Tag:   numbered(seq),
		Txn:   api.Txn{Kind: api.TxMove, Writes: []string{m.Key}, To: to},
		Marks: []api.Mark{m},
	}
}

func run(o api.Order) api.Item {
	return api.Item{Kind: api.ItRun, Order: o}
}

func piece(index int, o api.Order) api.Item {
	return api.Item{Kind: api.ItPiece, Index: index, Order: o}
}

// done is the decision of a try whose code is OK, and which put out numbers.
func done(seq uint64, numbers ...int64) api.Decision {
	d := failed(seq, api.OK)
	for _, n := range numbers {
		d.Result.Outs = append(d.Result.Outs, api.Out{Has: true, Value: eval.Value(n)})
	}
	return d
}

// failed is the decision of a try with a code alone.
func failed(seq uint64, code api.Errno) api.Decision {
	return api.Decision{Tag: numbered(seq), Result: api.Result{Code: code}}
}

// feeds feeds an item, and fails, unless these are the decisions.
func feeds(t *testing.T, s *Sched, region int, i api.Item, want ...api.Decision) {
	t.Helper()
	if got := s.Feed(region, i); fmt.Sprint(got) != fmt.Sprint(want) {
		t.Errorf("Feed of %v to %d: %v, want %v", i, region, got, want)
	}
}

// waits fails, unless just these wait.
func waits(t *testing.T, s *Sched, seqs ...uint64) {
	t.Helper()
	if got := s.Waiting(); !slices.Equal(got, numberedAll(seqs...)) {
		t.Errorf("Waiting: %v, want %v", got, seqs)
	}
}

// ahead fails, unless just these stand ahead of a try.
func ahead(t *testing.T, s *Sched, seq uint64, seqs ...uint64) {
	t.Helper()
	if got := s.Ahead(numbered(seq)); !slices.Equal(got, numberedAll(seqs...)) {
		t.Errorf("Ahead of %d: %v, want %v", seq, got, seqs)
	}
}

// fed fails, unless so many entries of each region's log were fed.
func fed(t *testing.T, s *Sched, counts ...int) {
	t.Helper()
	for region, want := range counts {
		if got := s.Fed(region); got != want {
			t.Errorf("Fed(%d): %d, want %d", region, got, want)
		}
	}
}

// lasts fails, unless these are the places of the regions' last pieces.
func lasts(t *testing.T, s *Sched, places ...int) {
	t.Helper()
	for region, want := range places {
		if got := s.Last(region); got != want {
			t.Errorf("Last(%d): %d, want %d", region, got, want)
		}
	}
}

// row is a key with a number.
func row(key string, number int64, home int, count uint64) api.Row {
	return api.Row{Key: key, Record: api.Record{Has: true, Value: eval.Value(number), Home: home, Count: count}}
}

// moved is a key without a value that has had another home.
func moved(key string, home int, count uint64) api.Row {
	return api.Row{Key: key, Record: api.Record{Home: home, Count: count}}
}

// rows fails, unless these are the records.
func rows(t *testing.T, s *Sched, want ...api.Row) {
	t.Helper()
	if got := s.Rows(); fmt.Sprint(got) != fmt.Sprint(want) {
		t.Errorf("Rows: %v, want %v", got, want)
	}
}

// snapshot gives a Sched's bytes.
func snapshot(t *testing.T, s *Sched) []byte {
	t.Helper()
	data, err := s.Snapshot()
	if err != api.OK {
		t.Fatalf("Snapshot: %v", err)
	}
	return data
}

// restored gives a Sched of bytes.
func restored(t *testing.T, data []byte, regions int) *Sched {
	t.Helper()
	s, err := Restore(data, regions)
	if s == nil || err != api.OK {
		t.Fatalf("Restore of %v: %v", data, err)
	}
	return s
}

// steps is a row of numbers that looks thrown, and is the same in each run.
func steps(seed uint64) func(below int) int {
	return func(below int) int {
		seed = seed*6364136223846793005 + 1442695040888963407
		return int(seed>>33) % below
	}
}
