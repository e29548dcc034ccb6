package world

import (
	"fmt"
	"math"
	"slices"
	"testing"

	"argosy/api"
)

// P24.3: Subs: each submission with the numbers of its events, refused events counted, too; Made: each decision of each node.
func TestSubsAndMade(t *testing.T) {
	w := led(t)
	refuses(t, w, pick(0, 0), api.ErrStep)
	does(t, w, submit(0, writing("x", "a")), submit(0, reading("a")), tick(0), submit(0, reading("b")))
	one := api.Sub{Id: idOf(0, 1, 1), Txn: writing("x", "a"), Start: 7, End: -1}
	two := api.Sub{Id: idOf(0, 1, 2), Txn: reading("a"), Start: 8, End: -1}
	three := api.Sub{Id: idOf(0, 1, 3), Txn: reading("b"), Start: 10, End: -1}
	same(t, "Subs", w.Subs(), []api.Sub{one, two, three})
	same(t, "Made", w.Made(), "[]")
	does(t, w, pick(0, 0))
	one.End = 11
	first := api.Made{Node: 0, At: 11, Decision: api.Decision{Tag: api.Tag{Id: one.Id}}}
	same(t, "Subs", w.Subs(), []api.Sub{one, two, three})
	same(t, "Made", w.Made(), []api.Made{first})
	does(t, w, pick(0, 0))
	two.End, two.Result = 12, has("x")
	second := api.Made{Node: 0, At: 12, Decision: api.Decision{Tag: api.Tag{Id: two.Id}, Result: has("x")}}
	same(t, "Subs", w.Subs(), []api.Sub{one, two, three})

	// The next life decides them anew, and replies none of an elder one's.
	does(t, w, crash(0), reopen(0), lead(0, 0), lead(0, 1), tick(0), pick(0, 0), pick(0, 0))
	refuses(t, w, pick(0, 0), api.ErrStep)
	first.At, second.At = 18, 19
	same(t, "Made", w.Made()[2:], []api.Made{first, second})
	same(t, "Subs", w.Subs(), []api.Sub{one, two, three})
	does(t, w, submit(0, reading("b")))
	same(t, "the fourth", w.Subs()[3], api.Sub{Id: idOf(0, 15, 1), Txn: reading("b"), Start: 21, End: -1})
}

// P24.3: what nodes decide is told of each, and a reply is that of the node that took the submission.
func TestMadeByAll(t *testing.T) {
	w := begun(t, 2, 1)
	does(t, w, lead(0, 0), lead(1, 1), lead(1, 2))
	comeAll(t, w)
	does(t, w, submit(1, writing("y", "a", "b")), tick(1))
	comeAll(t, w)
	start := w.Subs()[0].Start
	at := w.events
	does(t, w, pick(0, 0), pick(0, 1), pick(1, 1))
	tag := api.Tag{Id: idOf(1, 1, 1)}
	same(t, "Waiting", []any{w.Waiting(0), w.Waiting(1)}, []any{[]api.Tag{}, []api.Tag{tag}})
	same(t, "Made", w.Made(), []api.Made{{Node: 0, At: at + 1, Decision: api.Decision{Tag: tag}}})
	same(t, "End", w.Subs()[0].End, -1)
	does(t, w, pick(1, 0))
	same(t, "Made", w.Made()[1:], []api.Made{{Node: 1, At: at + 3, Decision: api.Decision{Tag: tag}}})
	same(t, "Subs", w.Subs(), []api.Sub{{Id: tag.Id, Txn: writing("y", "a", "b"), Start: start, End: at + 3}})
}

// P24.3: what is asked of a node is that node's.
func TestAsked(t *testing.T) {
	w := begun(t, 2, 1)
	does(t, w, lead(0, 0), lead(1, 1), lead(0, 2))
	comeAll(t, w)
	does(t, w, submit(0, writing("x", "a", "b")), tick(0))
	comeAll(t, w)
	does(t, w, submit(0, writing("y", "b")), submit(0, reading("b")), tick(0))
	comeAll(t, w)
	does(t, w, pick(0, 0), pick(0, 0), pick(0, 0))
	x, y, read := api.Tag{Id: idOf(0, 1, 1)}, api.Tag{Id: idOf(0, 1, 2)}, api.Tag{Id: idOf(0, 1, 3)}
	same(t, "Waiting", []any{w.Waiting(0), w.Waiting(1)}, []any{[]api.Tag{x, y, read}, []api.Tag{}})
	same(t, "Ahead", []any{w.Ahead(0, read), w.Ahead(0, y), w.Ahead(0, x), w.Ahead(1, read)}, []any{[]api.Tag{x, y}, []api.Tag{x}, []api.Tag{}, []api.Tag{}})
	same(t, "Fed", []int{w.Fed(0, 0), w.Fed(0, 1), w.Fed(1, 0), w.Fed(0, 2), w.Fed(0, -1)}, "[3 0 0 0 0]")
	same(t, "Rows", []any{w.Rows(0), w.Rows(1)}, "[[] []]")
	for group := range 3 {
		same(t, "Chosen", w.Chosen(1, group), w.Chosen(0, group))
		same(t, "entries", len(w.Chosen(0, group)), []int{3, 1, 1}[group])
		same(t, "Leads", []bool{w.Leads(0, group), w.Leads(1, group)}, []bool{group != 1, group == 1})
	}
	same(t, "Chosen of no log", [][]string{w.Chosen(0, -1), w.Chosen(0, 3)}, "[[] []]")
	does(t, w, pick(0, 1))
	a, b := api.Record{Has: true, Value: []byte("x"), Home: 1}, api.Record{Has: true, Value: []byte("y")}
	same(t, "Rows", []any{w.Rows(0), w.Rows(1)}, []any{[]api.Row{{Key: "a", Record: a}, {Key: "b", Record: b}}, []api.Row{}})
	same(t, "Replies", []any{w.Subs()[1].Result, w.Subs()[2].Result}, []any{api.Result{}, has("y")})

	does(t, w, crash(0))
	same(t, "one that is off", told(w, 0), "false")
	same(t, "the other one", []any{w.Up(1), len(w.Chosen(1, 0))}, "[true 3]")
}

// roomy gives bytes with spare room behind them, which must stay as it is.
func roomy(b []byte) []byte {
	all := append(slices.Clone(b), 0xee, 0xee, 0xee, 0xee)
	return all[:len(b)]
}

// unchanged tells whether bytes of roomy are as they were made.
func unchanged(b, was []byte) bool {
	return slices.Equal(b, was) && slices.Equal(b[len(b):][:4], []byte{0xee, 0xee, 0xee, 0xee})
}

// P24.8: an event isn't changed, its spare room neither, and may be written over behind the call.
func TestEventIsLeft(t *testing.T) {
	w := led(t)
	value := roomy([]byte("x"))
	writes, reads := []string{"a", "zz"}[:1], []string{"b", "zz"}[:1]
	ops := []api.Op{{Kind: api.OpWrite, Key: "a", Value: value}, {Kind: api.OpEmit, Value: value}, {}}[:2]
	does(t, w, submit(0, api.Txn{Kind: api.TxRun, Reads: reads, Writes: writes, Ops: ops}))
	if !unchanged(value, []byte("x")) || writes[0] != "a" || reads[0] != "b" || writes[:2][1] != "zz" || reads[:2][1] != "zz" || ops[0].Key != "a" || ops[:3][2].Kind != 0 {
		t.Errorf("an event was changed: %v, %v, %v", reads, writes, ops)
	}
	clear(value[:cap(value)])
	clear(writes[:2])
	clear(reads[:2])
	clear(ops[:3])
	want := api.Txn{Kind: api.TxRun, Reads: []string{"b"}, Writes: []string{"a"}, Ops: []api.Op{
		{Kind: api.OpWrite, Key: "a", Value: []byte("x")}, {Kind: api.OpEmit, Value: []byte("x")},
	}}
	same(t, "Txn", w.Subs()[0].Txn, want)
	does(t, w, tick(0), pick(0, 0))
	same(t, "Result", w.Subs()[0].Result, has("x"))
	same(t, "Rows", w.Rows(0), []api.Row{{Key: "a", Record: api.Record{Has: true, Value: []byte("x")}}})

	keeps := []int{3, 1, 4, 1, 5, 9, 2, 6}
	does(t, w, power(0, 1), submit(0, reading()), tick(0), crash(0, keeps[:6]...))
	same(t, "Keeps", keeps, "[3 1 4 1 5 9 2 6]")
	was := w.seats[0].disk.Crash(nil)
	clear(keeps)
	alike(t, w.seats[0].disk, was)
}

// P24.8: answers are new memory, spare room, too: what is written over in one isn't seen in another.
func TestAnswersAreNew(t *testing.T) {
	w := begun(t, 2, 1)
	does(t, w, lead(0, 0), lead(1, 1), lead(0, 2))
	comeAll(t, w)
	emits := api.Txn{Kind: api.TxRun, Reads: []string{"b"}, Writes: []string{"d"}, Ops: []api.Op{
		{Kind: api.OpEmit, Value: []byte("x")}, {Kind: api.OpWrite, Key: "d", Value: []byte("y")}, {Kind: api.OpRead, Key: "d"},
	}}
	does(t, w, submit(0, emits), tick(0), pick(0, 0), submit(0, writing("x", "a", "b")), tick(0))
	comeAll(t, w)
	does(t, w, submit(0, writing("y", "b")), tick(0), pick(0, 0), pick(0, 0))
	late := api.Tag{Id: idOf(0, 1, 3)}
	all := func() string {
		return fmt.Sprint(w.Subs(), w.Made(), told(w, 0), told(w, 1), w.Ahead(0, late))
	}
	was := all()
	for range 2 {
		for _, sub := range w.Subs()[:3] {
			spoilTxn(sub.Txn)
			spoilResult(sub.Result)
		}
		for _, m := range w.Made() {
			spoilResult(m.Decision.Result)
		}
		subs, made := w.Subs(), w.Made()
		clear(subs[:cap(subs)])
		clear(made[:cap(made)])
		rows, chosen, waiting, ahead := w.Rows(0), w.Chosen(0, 0), w.Waiting(0), w.Ahead(0, late)
		if len(rows) == 0 || len(chosen) == 0 || len(waiting) == 0 || len(ahead) == 0 {
			t.Fatal("nothing to be written over")
		}
		for _, row := range rows {
			clear(row.Record.Value[:cap(row.Record.Value)])
		}
		clear(rows[:cap(rows)])
		clear(chosen[:cap(chosen)])
		clear(waiting[:cap(waiting)])
		clear(ahead[:cap(ahead)])
		same(t, "behind", all(), was)
	}
	// Lists that grow within their spare room don't meet.
	one, two := w.Subs()[0], w.Subs()[0]
	_ = append(one.Result.Outs, api.Out{Value: []byte("q")})
	_ = append(one.Result.Outs[0].Value, 'q')
	_ = append(one.Txn.Ops, api.Op{Key: "q"})
	two.Result.Outs = append(two.Result.Outs, api.Out{Value: []byte("r")})
	same(t, "Outs", len(two.Result.Outs), 3)
	same(t, "behind", all(), was)
}

// spoilTxn writes over all that a transaction has.
func spoilTxn(t api.Txn) {
	for _, op := range t.Ops {
		clear(op.Value[:cap(op.Value)])
	}
	clear(t.Ops[:cap(t.Ops)])
	clear(t.Reads[:cap(t.Reads)])
	clear(t.Writes[:cap(t.Writes)])
}

// spoilResult writes over all that a result has.
func spoilResult(r api.Result) {
	for _, out := range r.Outs {
		clear(out.Value[:cap(out.Value)])
	}
	clear(r.Outs[:cap(r.Outs)])
}

// wildEvent gives some event with any numbers.
func wildEvent(next func(int) int) api.Event {
	numbers := []int{0, 1, 2, 3, 4, 8, 9, 63, 64, -1, math.MinInt, math.MaxInt, math.MaxInt32, 1 << 40}
	number := func() int { return numbers[next(len(numbers))] }
	e := api.Event{Kind: next(14), Who: next(4), K: next(4)}
	if next(4) == 0 {
		e.Who = number()
	}
	if next(4) == 0 {
		e.K = number()
	}
	if next(40) == 0 {
		e.Kind = number()
	}
	for range next(9) {
		e.Keeps = append(e.Keeps, number())
	}
	e.Txn = []api.Txn{{}, reading("a"), reading("b", "a"), writing("x", "a", "b"), moving("a", next(3)), moving("a", number()), {Kind: number()}, {Kind: api.TxMove}}[next(8)]
	return e
}

// P1: whatever happens, each call ends, and none panics; P2: two runs of the same calls give the same answers.
func TestWild(t *testing.T) {
	run := func(seed uint64) string {
		next := steps(seed)
		w := begun(t, 1+next(3), 1+2*next(2))
		var all []any
		for range 600 {
			e := wildEvent(next)
			all = append(all, w.Do(e), w.Len())
			tag := api.Tag{Id: idOf(e.Who, uint64(next(3)), uint64(next(3))), Try: next(3)}
			all = append(all, w.Up(e.Who), w.Chosen(e.Who, e.K), w.Leads(e.Who, e.K), w.Fed(e.Who, e.K), w.Rows(e.Who), w.Waiting(e.Who), w.Ahead(e.Who, tag))
		}
		return fmt.Sprint(append(all, w.Subs(), w.Made())...)
	}
	for seed := range uint64(60) {
		same(t, fmt.Sprint("the second run of ", seed), run(seed), run(seed))
	}
}
