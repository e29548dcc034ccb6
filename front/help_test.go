package front

import (
	"fmt"
	"slices"
	"testing"

	"argosy/api"
	"argosy/sched"
)

// At the beginning, of three regions, c is at home in 0, a in 1, b in 2.

// scheduled gives a sched of three regions to which nothing was fed.
func scheduled(t *testing.T) *sched.Sched {
	t.Helper()
	s, err := sched.New(3)
	if err != api.OK {
		t.Fatal(err)
	}
	return s
}

// move gives a key of a sched another home.
func move(t *testing.T, s *sched.Sched, key string, to int) {
	t.Helper()
	o := s.Make(tagOf(8, 99, 1, 0), api.Txn{Kind: api.TxMove, Writes: []string{key}, To: to})
	home := o.Marks[0].Home
	made := s.Feed(home, api.Item{Kind: api.ItPiece, Index: s.Last(home) + 1, Order: o})
	if len(made) != 1 || made[0].Result.Code != api.OK {
		t.Fatalf("%s doesn't move: %v", key, made)
	}
}

// A front of these tests is, where nothing else is said, that of the node 4 in its life 7, of three regions.

func began() *Front {
	return New(4, 7, 3)
}

// idOf names a submission of such a front.
func idOf(seq uint64) api.Id {
	return api.Id{Node: 4, Epoch: 7, Seq: seq}
}

// tryOf names a try of such a front.
func tryOf(seq uint64, try int) api.Tag {
	return api.Tag{Id: idOf(seq), Try: try}
}

func tagOf(node int, epoch, seq uint64, try int) api.Tag {
	return api.Tag{Id: api.Id{Node: node, Epoch: epoch, Seq: seq}, Try: try}
}

// reading gives a transaction that reads keys, and puts out what they have.
func reading(keys ...string) api.Txn {
	t := api.Txn{Kind: api.TxRun, Reads: keys}
	for _, key := range keys {
		t.Ops = append(t.Ops, api.Op{Kind: api.OpRead, Key: key})
	}
	return t
}

// writing gives a transaction that lets keys have a value.
func writing(value string, keys ...string) api.Txn {
	t := api.Txn{Kind: api.TxRun, Writes: keys}
	for _, key := range keys {
		t.Ops = append(t.Ops, api.Op{Kind: api.OpWrite, Key: key, Value: []byte(value)})
	}
	return t
}

// moving gives a transaction that gives a key another home.
func moving(key string, to int) api.Txn {
	return api.Txn{Kind: api.TxMove, Writes: []string{key}, To: to}
}

func mark(key string, home int, count uint64) api.Mark {
	return api.Mark{Key: key, Home: home, Count: count}
}

// orderOf gives the order of a try.
func orderOf(tag api.Tag, t api.Txn, marks ...api.Mark) api.Order {
	return api.Order{Tag: tag, Txn: t, Marks: marks}
}

// decided gives a decision that has put out texts.
func decided(tag api.Tag, code api.Errno, outs ...string) api.Decision {
	d := api.Decision{Tag: tag, Result: api.Result{Code: code}}
	for _, out := range outs {
		d.Result.Outs = append(d.Result.Outs, api.Out{Has: true, Value: []byte(out)})
	}
	return d
}

// submits submits transactions, and fails, unless they are taken, the first one under this number, and so on.
func submits(t *testing.T, f *Front, seq uint64, all ...api.Txn) {
	t.Helper()
	for i, txn := range all {
		want := idOf(seq + uint64(i))
		if got, err := f.Submit(txn); got != want || err != api.OK {
			t.Errorf("Submit of %v: %v, %v, want %v", txn, got, err, want)
		}
	}
}

// refuses fails, unless a transaction isn't taken, with this error.
func refuses(t *testing.T, f *Front, txn api.Txn, want api.Errno) {
	t.Helper()
	if id, err := f.Submit(txn); err != want || id != (api.Id{}) {
		t.Errorf("Submit of %v: %v, %v, want %v", txn, id, err, want)
	}
}

// opens fails, unless just these submissions are open, in this order.
func opens(t *testing.T, f *Front, seqs ...uint64) {
	t.Helper()
	var want []api.Id
	for _, seq := range seqs {
		want = append(want, idOf(seq))
	}
	if got := f.Open(); !slices.Equal(got, want) {
		t.Errorf("Open: %v, want %v", got, want)
	}
}

// orders fails, unless these are told, in this order.
func orders(t *testing.T, f *Front, s *sched.Sched, want ...api.Order) {
	t.Helper()
	if got := f.Orders(s); fmt.Sprint(got) != fmt.Sprint(want) {
		t.Errorf("Orders:\n%v, want\n%v", got, want)
	}
}

// silent fails, unless a decision gives no reply.
func silent(t *testing.T, f *Front, d api.Decision) {
	t.Helper()
	reply, ok := f.Decide(d)
	if ok || fmt.Sprint(reply) != fmt.Sprint(api.Reply{}) {
		t.Errorf("Decide of %v: %v, %v, want none", d, reply, ok)
	}
}

// replies fails, unless a decision gives the reply to its submission, of this result.
func replies(t *testing.T, f *Front, d api.Decision, want api.Result) {
	t.Helper()
	reply, ok := f.Decide(d)
	if !ok || reply.Id != d.Tag.Id || fmt.Sprint(reply.Result) != fmt.Sprint(want) {
		t.Errorf("Decide of %v: %v, %v, want %v", d, reply, ok, want)
	}
}

// finds fails, unless the word that a log is full for a try gives the reply to its submission, or, if none is wanted, no reply.
func finds(t *testing.T, f *Front, tag api.Tag, want bool) {
	t.Helper()
	reply := api.Reply{}
	if want {
		reply = api.Reply{Id: tag.Id, Result: api.Result{Code: api.ErrLog}}
	}
	if got, ok := f.Full(tag); ok != want || fmt.Sprint(got) != fmt.Sprint(reply) {
		t.Errorf("Full of %v: %v, %v, want %v", tag, got, ok, reply)
	}
}

// steps is a row of numbers that looks thrown, and is the same in each run.
func steps(seed uint64) func(below int) int {
	return func(below int) int {
		seed = seed*6364136223846793005 + 1442695040888963407
		return int(seed>>33) % below
	}
}
