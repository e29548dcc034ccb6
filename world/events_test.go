package world

import (
	"math"
	"slices"
	"testing"

	"argosy/api"
	"argosy/disk"
	"argosy/durable"
)

// nobody is numbers that no node has, in a world of one.
var nobody = []int{-1, 1, 2, 9, math.MinInt, math.MaxInt}

// P24.1: New takes 1 to 3 regions with 1 or 3 replicas; then all nodes are up, in their first lives, and may vote.
func TestNew(t *testing.T) {
	numbers := []int{math.MinInt, -3, -1, 0, 1, 2, 3, 4, 5, 6, 9, math.MaxInt}
	for _, regions := range numbers {
		for _, replicas := range numbers {
			w, err := New(regions, replicas)
			if regions < 1 || regions > 3 || replicas != 1 && replicas != 3 {
				if w != nil || err != api.ErrConfig {
					t.Errorf("New(%d, %d): %v", regions, replicas, err)
				}
				continue
			}
			wants(t, "New", err, api.OK)
			for who := -1; who <= 9; who++ {
				same(t, "Up", w.Up(who), who >= 0 && who < regions*replicas)
			}
			same(t, "Len, Subs, Made", []any{w.Len(), w.Subs(), w.Made()}, "[0 [] []]")
			for who := range regions * replicas {
				does(t, w, lead(who, regions), lead(who, who/replicas), submit(who, reading()))
				same(t, "Id", w.Subs()[who].Id, idOf(who, 1, 1))
			}
		}
	}
}

// P24.1: a disk has room for 2^20 bytes.
func TestRoom(t *testing.T) {
	w := begun(t, 1, 1)
	wiped := begun(t, 1, 1)
	does(t, wiped, crash(0), wipe(0))
	for _, d := range []*disk.Disk{w.seats[0].disk, wiped.seats[0].disk} {
		rest := make([]byte, 1<<20-d.Used())
		wants(t, "too much", d.Append("x", append(rest, 0)), api.ErrFull)
		wants(t, "all", d.Append("x", rest), api.OK)
	}
}

// P24.2: events of kinds that there aren't, of nodes that there aren't, and of parcels that there aren't.
func TestStep(t *testing.T) {
	w := begun(t, 1, 1)
	for _, kind := range []int{0, -1, api.EvWipe + 1, 100, math.MinInt, math.MaxInt} {
		refuses(t, w, api.Event{Kind: kind, Txn: reading()}, api.ErrStep)
	}
	for _, who := range nobody {
		for kind := api.EvSubmit; kind <= api.EvCheck; kind++ {
			refuses(t, w, api.Event{Kind: kind, Who: who, Txn: api.Txn{Kind: 5}}, api.ErrStep)
		}
		for kind := api.EvPower; kind <= api.EvWipe; kind++ {
			refuses(t, w, api.Event{Kind: kind, Who: who}, api.ErrStep)
		}
		for kind := api.EvDeliver; kind <= api.EvCopy; kind++ {
			refuses(t, w, api.Event{Kind: kind, K: who}, api.ErrStep)
			refuses(t, w, api.Event{Kind: kind, K: 0}, api.ErrStep)
		}
		same(t, "Up", w.Up(who), false)
		same(t, "Chosen", w.Chosen(who, 0), "[]")
		same(t, "Leads", w.Leads(who, 0), false)
		same(t, "Fed", w.Fed(who, 0), 0)
		same(t, "Rows", w.Rows(who), "[]")
		same(t, "Waiting", w.Waiting(who), "[]")
		same(t, "Ahead", w.Ahead(who, api.Tag{}), "[]")
	}
	same(t, "Up", w.Up(0), true)
}

// P24.2: what asks for a node that is up is refused by one that is off; a parcel that comes to it is out.
func TestOff(t *testing.T) {
	w := begun(t, 1, 3)
	does(t, w, lead(0, 0))
	same(t, "Len", w.Len(), 2)
	does(t, w, crash(1))
	for kind := api.EvSubmit; kind <= api.EvCheck; kind++ {
		refuses(t, w, api.Event{Kind: kind, Who: 1, Txn: reading()}, api.ErrStep)
	}
	refuses(t, w, power(1, 3), api.ErrStep)
	same(t, "Subs", w.Subs(), "[]")
	does(t, w, deliver(0))
	same(t, "Len", w.Len(), 1)
	same(t, "Up", w.Up(1), false)
	// The other one's comes, is acknowledged, and is answered by another parcel.
	does(t, w, deliver(0))
	same(t, "Len", w.Len(), 1)
}

// P24.2: the errors of Submit; what it refuses is none of the submissions.
func TestSubmit(t *testing.T) {
	w := begun(t, 1, 1)
	refuses(t, w, submit(0, api.Txn{}), api.ErrArg)
	refuses(t, w, submit(0, moving("a", 1)), api.ErrArg)
	for range api.MaxLog {
		does(t, w, submit(0, reading("a")))
	}
	refuses(t, w, submit(0, reading("a")), api.ErrFull)
	refuses(t, w, submit(0, api.Txn{}), api.ErrArg)
	var want []api.Sub
	for i := range api.MaxLog {
		want = append(want, api.Sub{Id: idOf(0, 1, uint64(i+1)), Txn: reading("a"), Start: 2 + i, End: -1})
	}
	same(t, "Subs", w.Subs(), want)
}

// P24.2: the errors of Lead.
func TestLead(t *testing.T) {
	w := begun(t, 2, 3)
	for _, group := range []int{-1, 1, 3, math.MinInt, math.MaxInt} {
		refuses(t, w, lead(2, group), api.ErrStep)
	}
	same(t, "Len", w.Len(), 0)
	does(t, w, lead(2, 0), lead(3, 1), lead(3, 2))
	same(t, "Len", w.Len(), 2+2+5)
	comeAll(t, w)
	same(t, "Leads", []bool{w.Leads(2, 0), w.Leads(3, 1), w.Leads(3, 2), w.Leads(3, 0), w.Leads(3, 3), w.Leads(3, -1)}, "[true true true false false false]")
	does(t, w, crash(3))
	same(t, "Leads", w.Leads(3, 1), false)
}

// P24.2: a Pick that says false; and the errors of Check.
func TestPickAndCheck(t *testing.T) {
	w := led(t)
	for _, region := range []int{0, 1, -1, 3, math.MinInt, math.MaxInt} {
		refuses(t, w, pick(0, region), api.ErrStep)
	}
	does(t, w, submit(0, writing("x", "a")), tick(0), pick(0, 0))
	refuses(t, w, pick(0, 0), api.ErrStep)
	same(t, "Fed", []int{w.Fed(0, 0), w.Fed(0, 1), w.Fed(0, -1)}, "[1 0 0]")
	does(t, w, check(0), crash(0), reopen(0))
	same(t, "Fed", w.Fed(0, 0), 1)
	same(t, "Rows", w.Rows(0), []api.Row{{Key: "a", Record: api.Record{Has: true, Value: []byte("x")}}})

	both := begun(t, 2, 1)
	does(t, both, lead(0, 0), lead(0, 2), lead(1, 1))
	comeAll(t, both)
	does(t, both, submit(0, writing("x", "a", "b")), tick(0))
	comeAll(t, both)
	does(t, both, pick(0, 0))
	refuses(t, both, check(0), api.ErrBusy)
	does(t, both, check(1), pick(0, 1), check(0))
}

// P24.2: parcels by their numbers: which of them comes, is lost, or is there once more.
func TestParcels(t *testing.T) {
	w := begun(t, 1, 3)
	// To 1 and 2; the messages' order is that of the nodes.
	does(t, w, lead(0, 0), double(1), lose(0), lose(0))
	same(t, "Len", w.Len(), 1)
	for _, k := range []int{1, -1, math.MinInt, math.MaxInt} {
		refuses(t, w, deliver(k), api.ErrStep)
		refuses(t, w, lose(k), api.ErrStep)
		refuses(t, w, double(k), api.ErrStep)
	}
	does(t, w, deliver(0))
	comeAll(t, w)
	same(t, "Leads", w.Leads(0, 0), true)

	// The asked ones were to be 1 and 2: without 2, 1's answer is enough, but not if both are lost.
	w = begun(t, 1, 3)
	does(t, w, lead(0, 0), lose(1), lose(0))
	same(t, "Leads", w.Leads(0, 0), false)
	does(t, w, tick(0))
	comeAll(t, w)
	same(t, "Leads", w.Leads(0, 0), true)
}

// P24.2: what the net doesn't take is lost.
func TestNetIsFull(t *testing.T) {
	w := begun(t, 1, 3)
	does(t, w, lead(0, 0))
	for w.Len() < 4000 {
		does(t, w, double(0))
	}
	refuses(t, w, double(0), api.ErrStep)
	does(t, w, tick(1), lead(1, 1))
	same(t, "Len", w.Len(), 4000)
	does(t, w, lose(0), tick(1))
	same(t, "Len", w.Len(), 4000)
	// By a parcel that comes there is room for one answer.
	does(t, w, deliver(1))
	same(t, "Len", w.Len(), 4000)
}

// P24.2: a Limit of 0 or more ends the power behind so many changes, one below 0 doesn't; the last one counts.
func TestPower(t *testing.T) {
	for changes := range 5 {
		w := begun(t, 1, 1)
		does(t, w, power(0, changes))
		// A promise is an Append and a Sync.
		want := []api.Errno{api.ErrDown, api.ErrDown, api.OK, api.OK, api.OK}[changes]
		refuses(t, w, lead(0, 0), want)
		same(t, "Up", w.Up(0), want == api.OK)
	}
	for _, changes := range []int{-1, -5, math.MinInt, math.MaxInt} {
		w := begun(t, 1, 1)
		does(t, w, power(0, 0), power(0, changes), lead(0, 0), lead(0, 1), check(0), submit(0, reading()), tick(0), pick(0, 0))
		same(t, "End", w.Subs()[0].End, 7)
	}
}

// P24.2: a node whose disk is down behind an event is off behind it, and has to be crashed ahead of its next life.
func TestDown(t *testing.T) {
	w := begun(t, 1, 1)
	does(t, w, power(0, 0))
	same(t, "Up", w.Up(0), true)
	refuses(t, w, check(0), api.ErrDown)
	same(t, "Up", w.Up(0), false)
	refuses(t, w, check(0), api.ErrStep)
	refuses(t, w, reopen(0), api.ErrStep)
	refuses(t, w, wipe(0), api.ErrStep)
	refuses(t, w, power(0, -1), api.ErrStep)
	does(t, w, crash(0), reopen(0))
	same(t, "Up", w.Up(0), true)
	does(t, w, check(0), lead(0, 0), lead(0, 1))
}

// P24.2: what a node has sent, and replied, in the event in which its disk went down, counts nevertheless.
func TestLastWords(t *testing.T) {
	w := begun(t, 1, 3)
	does(t, w, power(1, 1), lead(0, 0), deliver(0), deliver(1))
	same(t, "Len", w.Len(), 2)
	// To node 0 the link's answer, by which it comes to know the life of 1; then it asks, and 1 goes down by the promise.
	for w.Up(1) {
		does(t, w, deliver(0))
	}
	acks := 0
	for w.Len() > 0 {
		if p, ok := w.Net.Take(0); ok && p.From == 1 {
			acks++
		}
	}
	if acks == 0 {
		t.Error("nothing of 1 is under way")
	}

	// A single node's: its log is full, so that it replies; the global one isn't, so that it votes.
	w = led(t)
	for range api.MaxLog {
		does(t, w, submit(0, reading("a")), tick(0), pick(0, 0))
	}
	does(t, w, submit(0, reading("a")), submit(0, moving("a", 0)), power(0, 0))
	before := w.events
	does(t, w, tick(0))
	same(t, "Up", w.Up(0), false)
	subs := w.Subs()
	same(t, "replied", subs[api.MaxLog], api.Sub{Id: idOf(0, 1, 65), Txn: reading("a"), Start: before - 3, End: before, Result: api.Result{Code: api.ErrLog}})
}

// P24.2: EvCrash keeps of a disk what Crash keeps, of a node that is off, too.
func TestCrash(t *testing.T) {
	for keep := range 12 {
		w := begun(t, 1, 1)
		does(t, w, power(0, 1))
		refuses(t, w, lead(0, 0), api.ErrDown)
		was := w.seats[0].disk
		var keeps []int
		for range was.Names() {
			keeps = append(keeps, keep)
		}
		does(t, w, crash(0, keeps...))
		same(t, "Up", w.Up(0), false)
		alike(t, w.seats[0].disk, was.Crash(keeps))
		does(t, w, crash(0), crash(0, -1))
		alike(t, w.seats[0].disk, was.Crash(keeps))
		does(t, w, reopen(0))
		same(t, "Up", w.Up(0), true)
		does(t, w, crash(0), crash(0), reopen(0))
	}
}

// alike fails, unless two disks have the same files.
func alike(t *testing.T, a, b *disk.Disk) {
	t.Helper()
	same(t, "Names", a.Names(), b.Names())
	for _, name := range b.Names() {
		x, err := a.Read(name)
		wants(t, "Read", err, api.OK)
		y, _ := b.Read(name)
		if !slices.Equal(x, y) {
			t.Fatalf("%s: %x, want %x", name, x, y)
		}
	}
}

// P24.2: EvOpen is for a node that is off and was crashed since; a new life's number is above that of the event.
func TestOpen(t *testing.T) {
	w := begun(t, 1, 1)
	refuses(t, w, reopen(0), api.ErrStep)
	does(t, w, crash(0), reopen(0))
	refuses(t, w, reopen(0), api.ErrStep)
	does(t, w, submit(0, reading()))
	same(t, "Id", w.Subs()[0].Id, idOf(0, 3, 1))
	for range 5 {
		refuses(t, w, reopen(0), api.ErrStep)
	}
	does(t, w, crash(0), wipe(0), reopen(0), submit(0, reading()))
	same(t, "Id", w.Subs()[1].Id, idOf(0, 13, 1))
	same(t, "Start", w.Subs()[1].Start, 13)
	does(t, w, crash(0), reopen(0), submit(0, reading()))
	same(t, "Id", w.Subs()[2].Id, idOf(0, 16, 1))
}

// P24.2: a node whose Open fails stays off, and may be opened again, or wiped, unless its disk is down.
func TestOpenFails(t *testing.T) {
	w := begun(t, 1, 1)
	does(t, w, crash(0))
	torn, err := disk.New(api.MaxRoom)
	wants(t, "disk.New", err, api.OK)
	wants(t, "Append", torn.Append("life", []byte("torn")), api.OK)
	w.seats[0].disk = torn
	for range 3 {
		refuses(t, w, reopen(0), api.ErrTorn)
		same(t, "Up", w.Up(0), false)
	}
	does(t, w, wipe(0), reopen(0), crash(0))

	wants(t, "Format", durable.Format(w.seats[0].disk), api.OK)
	w.seats[0].disk.Limit(1)
	refuses(t, w, reopen(0), api.ErrDown)
	same(t, "Up", w.Up(0), false)
	refuses(t, w, reopen(0), api.ErrStep)
	does(t, w, crash(0), reopen(0))
	same(t, "Up", w.Up(0), true)
}

// P24.2: EvWipe is for a node that is off and was crashed since; it votes no more, in no later life.
func TestWipe(t *testing.T) {
	w := led(t)
	refuses(t, w, wipe(0), api.ErrStep)
	does(t, w, submit(0, writing("x", "a")), tick(0), pick(0, 0), check(0), crash(0), wipe(0), wipe(0))
	same(t, "files", w.seats[0].disk.Names(), "[]")
	same(t, "Up", w.Up(0), false)
	does(t, w, reopen(0))
	refuses(t, w, wipe(0), api.ErrStep)
	same(t, "Rows, Chosen", []any{w.Rows(0), w.Chosen(0, 0)}, "[[] []]")
	refuses(t, w, lead(0, 0), api.ErrStep)
	does(t, w, crash(0), reopen(0))
	refuses(t, w, lead(0, 1), api.ErrStep)
}
