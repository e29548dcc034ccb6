package world

import (
	"testing"

	"argosy/api"
)

// The example of chapter 24, and the first one of the whole.
func TestExample(t *testing.T) {
	w := begun(t, 1, 1)
	does(t, w, lead(0, 0), lead(0, 1), submit(0, writing("x", "a")), tick(0), pick(0, 0))
	same(t, "Subs", w.Subs(), []api.Sub{{Id: idOf(0, 1, 1), Txn: writing("x", "a"), Start: 2, End: 4}})
}

// two gives a world of two regions with one replica: node 0 leads the log of 0 and the global one, node 1 that of 1.
func two(t *testing.T) *World {
	t.Helper()
	w := begun(t, 2, 1)
	does(t, w, lead(0, 0), lead(0, 2), lead(1, 1))
	comeAll(t, w)
	return w
}

// goes lets a node take a submission, and lets it come into its logs.
func goes(t *testing.T, w *World, who int, txn api.Txn) {
	t.Helper()
	does(t, w, submit(who, txn), tick(who))
	comeAll(t, w)
}

// entries gives how many entries each log has.
func entries(w *World, regions int) []int {
	var all []int
	for group := range regions + 1 {
		all = append(all, len(w.Chosen(0, group)))
	}
	return all
}

// Examples 2 and 3 of the whole: which logs a transaction comes into, and when it has its turn.
func TestTurns(t *testing.T) {
	w := two(t)
	goes(t, w, 0, writing("x", "a"))
	same(t, "of a alone", entries(w, 2), "[0 1 0]")
	goes(t, w, 0, writing("y", "a", "b"))
	same(t, "of both", entries(w, 2), "[1 2 1]")
	x, y := api.Tag{Id: idOf(0, 1, 1)}, api.Tag{Id: idOf(0, 1, 2)}
	does(t, w, pick(0, 0))
	same(t, "Waiting", w.Waiting(0), []api.Tag{y})
	does(t, w, pick(0, 1))
	same(t, "Made", w.Made()[0].Decision.Tag, x)
	does(t, w, pick(0, 1))
	same(t, "Made", w.Made()[1].Decision.Tag, y)
}

// Example 4 of the whole: behind a move, what looked for the key where it was is stale, at every node, and tried again.
func TestMove(t *testing.T) {
	w := two(t)
	goes(t, w, 0, moving("b", 1))
	goes(t, w, 1, reading("b"))
	pickAll(w, 0, 1)
	b := api.Record{Home: 1, Count: 1}
	same(t, "Rows", w.Rows(1), []api.Row{{Key: "b", Record: b}})
	stale := 0
	for _, m := range w.Made() {
		if m.Decision.Tag == (api.Tag{Id: idOf(1, 1, 1)}) {
			same(t, "stale", m.Decision.Result, api.Result{Code: api.ErrStale})
			stale++
		}
	}
	same(t, "nodes", stale, 2)
	same(t, "entries", entries(w, 2), "[2 0 1]")
	does(t, w, tick(1))
	comeAll(t, w)
	pickAll(w, 0, 1)
	same(t, "entries", entries(w, 2), "[2 1 1]")
	same(t, "Made", w.Made()[len(w.Made())-1].Decision.Tag, api.Tag{Id: idOf(1, 1, 1), Try: 1})
	if sub := w.Subs()[1]; sub.End < 0 || sub.Result.Code != api.OK {
		t.Errorf("replied: %v", sub)
	}
}

// Example 5 of the whole: an order that looks for a key where it will be waits until the move is done.
func TestAheadOfTheMove(t *testing.T) {
	w := two(t)
	goes(t, w, 1, moving("b", 1))
	pickAll(w, 1)
	goes(t, w, 1, reading("b"))
	same(t, "entries", entries(w, 2), "[1 1 1]")
	move, read := api.Tag{Id: idOf(1, 1, 1)}, api.Tag{Id: idOf(1, 1, 2)}
	does(t, w, pick(0, 1))
	same(t, "Waiting", w.Waiting(0), []api.Tag{read})
	does(t, w, pick(0, 0))
	same(t, "Waiting", w.Waiting(0), "[]")
	made := w.Made()
	same(t, "in this order", []api.Tag{made[1].Decision.Tag, made[2].Decision.Tag}, []api.Tag{move, read})
}

// Example 6 of the whole: what was replied comes up again, though all power goes.
func TestPowerGoes(t *testing.T) {
	w := begun(t, 1, 3)
	does(t, w, lead(0, 0), lead(1, 1))
	comeAll(t, w)
	goes(t, w, 2, writing("x", "a"))
	pickAll(w, 2)
	same(t, "replied", w.Subs()[0].End >= 0, true)
	entry := w.Chosen(2, 0)
	for who := range 3 {
		does(t, w, crash(who), reopen(who))
		same(t, "Chosen", w.Chosen(who, 0), "[]")
	}
	// Whoever leads learns of it from the others' votes, or its own.
	for who := range 3 {
		does(t, w, lead(who, 0))
		comeAll(t, w)
		does(t, w, tick(who))
		comeAll(t, w)
		same(t, "Leads", w.Leads(who, 0), true)
		same(t, "Chosen", w.Chosen(who, 0), entry)
	}
	pickAll(w, 0, 1, 2)
	for who := range 3 {
		same(t, "Rows", w.Rows(who), []api.Row{{Key: "a", Record: api.Record{Has: true, Value: []byte("x")}}})
	}
}

// Example 7 of the whole: a file that is torn within a record ends ahead of it.
func TestTornLog(t *testing.T) {
	whole := 0
	for keep := range 120 {
		w := begun(t, 1, 1)
		does(t, w, lead(0, 0), lead(0, 1), power(0, 1), submit(0, writing("x", "a")), tick(0))
		same(t, "Up", w.Up(0), false)
		// Of the groups' logs that of 0 alone has what doesn't last.
		does(t, w, crash(0, keep, keep, keep), reopen(0), lead(0, 0), lead(0, 1), submit(0, reading("a")), tick(0))
		pickAll(w, 0)
		want := api.Result{Outs: []api.Out{{}}}
		if len(w.Chosen(0, 0)) == 2 {
			// All of the record was kept.
			want = has("x")
			whole++
		}
		same(t, "replied", w.Subs()[1].Result, want)
		same(t, "elder", w.Subs()[0].End, -1)
	}
	if whole < 1 || whole > 3 {
		t.Errorf("whole: %d", whole)
	}
}

// Example 8 of the whole: a wiped node votes no more, reads all logs, and has the same records in the end.
func TestWiped(t *testing.T) {
	w := begun(t, 1, 3)
	does(t, w, lead(0, 0), lead(1, 1))
	comeAll(t, w)
	goes(t, w, 1, writing("x", "a"))
	does(t, w, crash(2), wipe(2), reopen(2))
	goes(t, w, 1, writing("y", "b"))
	does(t, w, tick(2))
	comeAll(t, w)
	pickAll(w, 0, 1, 2)
	same(t, "Rows", w.Rows(2), w.Rows(0))
	same(t, "rows", len(w.Rows(2)), 2)
	refuses(t, w, lead(2, 0), api.ErrStep)
	// Without another voter its own word isn't enough.
	does(t, w, crash(1))
	does(t, w, submit(0, writing("z", "a")), tick(0))
	comeAll(t, w)
	same(t, "Chosen", len(w.Chosen(0, 0)), 2)
}

// Example 9 of the whole: three stale tries are enough; a log has room for 64 entries.
func TestTriesAndLog(t *testing.T) {
	w := two(t)
	does(t, w, submit(0, reading("b")))
	for try := range api.MaxTries {
		same(t, "End", w.Subs()[0].End, -1)
		// Node 0 marks its next try by what it has done; it hasn't done the move yet.
		goes(t, w, 1, moving("b", 1-try%2))
		pickAll(w, 1)
		does(t, w, tick(0))
		comeAll(t, w)
		pickAll(w, 0, 1)
	}
	same(t, "replied", w.Subs()[0].Result, api.Result{Code: api.ErrTries})

	w = led(t)
	for range api.MaxLog {
		does(t, w, submit(0, reading("a")), tick(0), pick(0, 0))
	}
	does(t, w, submit(0, reading("a")), tick(0))
	same(t, "replied", w.Subs()[api.MaxLog].Result, api.Result{Code: api.ErrLog})
}

// Example 10 of the whole: a node whose checkpoint is torn begins with nothing done, and does all logs anew.
func TestTornCheckpoint(t *testing.T) {
	w := led(t)
	does(t, w, submit(0, writing("x", "a")), tick(0), pick(0, 0), check(0), crash(0))
	d := w.seats[0].disk
	wants(t, "Cut", d.Cut("state", 3), api.OK)
	does(t, w, reopen(0))
	same(t, "Fed, Rows", []any{w.Fed(0, 0), w.Rows(0)}, "[0 []]")
	does(t, w, lead(0, 0), tick(0), pick(0, 0))
	same(t, "Rows", w.Rows(0), []api.Row{{Key: "a", Record: api.Record{Has: true, Value: []byte("x")}}})
	same(t, "Made", len(w.Made()), 2)
}
