package sched

import (
	"bytes"
	"fmt"
	"math"
	"slices"
	"testing"

	"argosy/api"
)

// P17.1: how many regions there may be.
func TestNew(t *testing.T) {
	for _, regions := range []int{math.MinInt, -1, 0, 1, 2, 3, 4, math.MaxInt} {
		s, err := New(regions)
		right := regions >= 1 && regions <= 3
		if right != (s != nil) || right && err != api.OK || !right && err != api.ErrArg {
			t.Errorf("New(%d): %v, %v", regions, s, err)
		}
	}
	for regions := 1; regions <= 3; regions++ {
		s := began(t, regions)
		rows(t, s)
		waits(t, s)
		fed(t, s, 0, 0, 0)
		lasts(t, s, -1, -1, -1)
	}
}

// P17.1: of a region that there isn't, 0 and -1 are told, whatever was fed.
func TestNoSuchRegion(t *testing.T) {
	for regions := 1; regions <= 3; regions++ {
		s := began(t, regions)
		for region := range regions {
			feeds(t, s, region, piece(5, moving(1, 0, mark("a", region, 1))))
		}
		fed(t, s, []int{1, 1, 1}[:regions]...)
		lasts(t, s, []int{5, 5, 5}[:regions]...)
		for _, region := range []int{math.MinInt, -1, regions, regions + 1, math.MaxInt} {
			if s.Fed(region) != 0 || s.Last(region) != -1 {
				t.Errorf("of %d regions, of %d: Fed %d, Last %d", regions, region, s.Fed(region), s.Last(region))
			}
		}
	}
}

// P17.1: an order is made by the records as they are.
func TestMake(t *testing.T) {
	s := began(t, 3)
	txn := adding(1, mark("a", 0, 0), mark("b", 0, 0)).Txn
	txn.Reads = []string{"aa", "c"}
	tag := tagOf(4, 5, 6, 2)
	makes := func(marks ...api.Mark) {
		t.Helper()
		want := api.Order{Tag: tag, Txn: txn, Marks: marks}
		if got := s.Make(tag, txn); fmt.Sprint(got) != fmt.Sprint(want) {
			t.Errorf("Make: %v, want %v", got, want)
		}
	}
	makes(mark("a", 1, 0), mark("aa", 2, 0), mark("b", 2, 0), mark("c", 0, 0))
	feeds(t, s, 1, piece(0, moving(1, 0, mark("a", 1, 0))), done(1))
	feeds(t, s, 0, piece(1, moving(2, 2, mark("c", 0, 0))), done(2))
	feeds(t, s, 2, piece(2, moving(3, 2, mark("c", 2, 1))), done(3))
	makes(mark("a", 0, 1), mark("aa", 2, 0), mark("b", 2, 0), mark("c", 2, 2))
	feeds(t, s, 1, piece(3, moving(4, 0, mark("d", 1, 0))), done(4))
	feeds(t, s, 0, run(adding(5, mark("a", 0, 1), mark("d", 0, 1))), done(5, 1, 1))
	makes(mark("a", 0, 1), mark("aa", 2, 0), mark("b", 2, 0), mark("c", 2, 2))
}

// P17.2: a run alone is decided at once; a run without keys is one of region 0.
func TestRun(t *testing.T) {
	s := began(t, 3)
	feeds(t, s, 1, run(adding(1, mark("a", 1, 0), mark("d", 1, 0))), done(1, 1, 1))
	feeds(t, s, 1, run(adding(2, mark("d", 1, 0))), done(2, 2))
	feeds(t, s, 0, run(adding(3)), done(3))
	feeds(t, s, 1, run(adding(4)))
	rows(t, s, row("a", 1, 1, 0), row("d", 2, 1, 0))
	fed(t, s, 1, 3, 0)
	lasts(t, s, -1, -1, -1)
	waits(t, s)
}

// The chapter's example: of two regions a is at home in 1, b in 0.
func TestPieces(t *testing.T) {
	for _, first := range []int{0, 1} {
		s := began(t, 2)
		o := adding(1, mark("a", 1, 0), mark("b", 0, 0))
		feeds(t, s, first, piece(7, o))
		waits(t, s, 1)
		rows(t, s)
		feeds(t, s, 1-first, piece(7, o), done(1, 1, 1))
		waits(t, s)
		rows(t, s, row("a", 1, 1, 0), row("b", 1, 0, 0))
		fed(t, s, 1, 1)
		lasts(t, s, 7, 7)
	}
}

// P17.2: a piece of each home is needed; a move has one home.
func TestComplete(t *testing.T) {
	for _, way := range [][]int{{0, 1, 2}, {0, 2, 1}, {1, 0, 2}, {1, 2, 0}, {2, 0, 1}, {2, 1, 0}} {
		s := began(t, 3)
		o := adding(1, mark("a", 1, 0), mark("b", 2, 0), mark("c", 0, 0), mark("d", 1, 0))
		feeds(t, s, way[0], piece(0, o))
		feeds(t, s, way[0], piece(1, o)) // it counts, but is of the same home
		feeds(t, s, way[1], piece(0, o))
		waits(t, s, 1)
		feeds(t, s, way[2], piece(0, o), done(1, 1, 1, 1, 1))
		waits(t, s)
	}
	s := began(t, 3)
	feeds(t, s, 2, piece(5, moving(1, 1, mark("b", 2, 0))), done(1))
	rows(t, s, moved("b", 1, 1))
	lasts(t, s, -1, -1, 5)
}

// nothing fails, unless nothing happens by an item.
func nothing(t *testing.T, s *Sched, region int, i api.Item) {
	t.Helper()
	before := snapshot(t, s)
	feeds(t, s, region, i)
	if data, err := s.Snapshot(); err != api.OK || string(data) != string(before) {
		t.Errorf("something happened by %v, fed to %d", i, region)
	}
}

// P17.2: nothing happens by an item that isn't right.
func TestWrongItems(t *testing.T) {
	s := began(t, 3)
	feeds(t, s, 1, run(adding(1, mark("a", 1, 0))), done(1, 1))
	two := adding(9, mark("a", 1, 0), mark("b", 2, 0))
	for _, kind := range []int{math.MinInt, -1, 0, 3, math.MaxInt} {
		nothing(t, s, 1, api.Item{Kind: kind, Order: adding(9, mark("a", 1, 0))})
		nothing(t, s, 1, api.Item{Kind: kind, Order: two})
	}
	for _, index := range []int{math.MinInt, -1, 1, 63, math.MaxInt} {
		nothing(t, s, 1, api.Item{Kind: api.ItRun, Index: index, Order: adding(9, mark("a", 1, 0))})
	}
	for _, index := range []int{math.MinInt, -1, 64, 1 << 32, math.MaxInt} {
		nothing(t, s, 1, piece(index, two))
	}
	for _, tag := range []api.Tag{{}, tagOf(-1, 1, 1, 0), tagOf(9, 1, 1, 0), tagOf(0, 0, 1, 0), tagOf(0, 1, 0, 0), tagOf(0, 1, 1, -1), tagOf(0, 1, 1, 3)} {
		alone, both := adding(0, mark("a", 1, 0)), two
		alone.Tag, both.Tag = tag, tag
		nothing(t, s, 1, run(alone))
		nothing(t, s, 1, piece(0, both))
	}
	for _, marks := range [][]api.Mark{
		{}, {mark("a", 1, 0)}, {mark("b", 2, 0), mark("a", 1, 0)}, {mark("a", 1, 0), mark("b", 3, 0)}, {mark("a", 1, 0), mark("b", -1, 0)},
		{mark("a", 1, 0), mark("b", 2, 0), mark("c", 0, 0)},
	} {
		o := two
		o.Marks = marks
		nothing(t, s, 1, piece(0, o))
	}
	alone := adding(9, mark("a", 1, 0))
	alone.Txn.Ops[0].Key = "q"
	nothing(t, s, 1, run(alone))
	alone.Txn = api.Txn{}
	nothing(t, s, 1, run(alone))
	nothing(t, s, 1, api.Item{})
	fed(t, s, 0, 1, 0)
	feeds(t, s, 1, piece(63, two)) // none of them has counted
	feeds(t, s, 2, piece(0, two), done(9, 2, 1))
}

// P17.2: nothing happens by an item that isn't right for the number of regions.
func TestTooManyRegions(t *testing.T) {
	s := began(t, 2) // a is at home in 1, b in 0
	nothing(t, s, 1, piece(0, adding(1, mark("a", 1, 0), mark("b", 2, 0))))
	nothing(t, s, 1, piece(0, moving(1, 2, mark("a", 1, 0))))
	nothing(t, s, 1, piece(0, moving(1, 1, mark("a", 2, 0))))
	nothing(t, s, 1, run(adding(1, mark("a", 2, 0))))
	feeds(t, s, 1, piece(0, moving(1, 1, mark("a", 1, 0))), done(1))
	one := began(t, 1)
	nothing(t, one, 0, piece(0, moving(1, 1, mark("a", 0, 0))))
	nothing(t, one, 0, run(adding(1, mark("a", 1, 0))))
	feeds(t, one, 0, run(adding(1, mark("a", 0, 0))), done(1, 1))
}

// P17.2: nothing happens in a region that there isn't.
func TestFeedNoSuchRegion(t *testing.T) {
	for regions := 1; regions <= 3; regions++ {
		s := began(t, regions)
		for _, region := range []int{math.MinInt, -1, regions, regions + 1, math.MaxInt} {
			nothing(t, s, region, run(adding(1)))
			nothing(t, s, region, run(adding(1, mark("a", 0, 0))))
			nothing(t, s, region, piece(0, moving(1, 0, mark("a", 0, 0))))
		}
	}
}

// P17.2: what is just right.
func TestEdgesOfItems(t *testing.T) {
	s := began(t, 3)
	o := adding(1, mark("a", 1, 0), mark("b", 2, 0))
	for try, tag := range []api.Tag{tagOf(0, 1, 1, 0), tagOf(8, 1, 1, 2), tagOf(8, math.MaxUint64, math.MaxUint64, 2)} {
		o.Tag = tag
		index := []int{0, 1, 63}[try]
		feeds(t, s, 1, piece(index, o))
		if got := s.Waiting(); len(got) != 1 || got[0] != tag {
			t.Errorf("Waiting: %v", got)
		}
		want := done(0, int64(try+1), int64(try+1))
		want.Tag = tag
		feeds(t, s, 2, piece(index, o), want)
	}
	lasts(t, s, -1, 63, 63)
}

// P17.2: an item that doesn't count is fed, and that is all.
func TestItemsThatDoNotCount(t *testing.T) {
	s := began(t, 3)
	both := adding(1, mark("a", 1, 0), mark("b", 2, 0))
	feeds(t, s, 1, piece(5, both))
	for i, x := range []api.Item{
		run(adding(2, mark("b", 2, 0))), run(both), piece(5, adding(2, mark("a", 1, 0), mark("b", 2, 0))), piece(4, both),
		piece(6, adding(2, mark("a", 1, 0))), piece(6, adding(2, mark("b", 2, 0), mark("c", 0, 0))), piece(6, moving(2, 1, mark("b", 2, 0))),
	} {
		feeds(t, s, 1, x)
		fed(t, s, 0, i+2, 0)
		lasts(t, s, -1, 5, -1)
		waits(t, s, 1)
	}
	feeds(t, s, 2, piece(5, both), done(1, 1, 1))
	feeds(t, s, 2, run(adding(2, mark("b", 2, 0))), done(2, 2))
	feeds(t, s, 2, run(adding(2, mark("b", 2, 0))))
	feeds(t, s, 2, piece(5, both))
	fed(t, s, 0, 8, 4)
	rows(t, s, row("a", 1, 1, 0), row("b", 2, 2, 0))
}

// P17.2, P17.5: entries are counted without an end, also beyond those of a log; a snapshot tells all.
func TestManyFed(t *testing.T) {
	s, many := began(t, 3), kept{fed: 200}
	for i := range int64(200) {
		seq := uint64(i + 1)
		feeds(t, s, 1, run(adding(seq, mark("a", 1, 0))), done(seq, i+1))
		many.tags = append(many.tags, [4]uint64{0, 1, seq, 0})
	}
	fed(t, s, 0, 200, 0)
	if got := snapshot(t, s); !bytes.Equal(got, written(3, stored(t, 3, row("a", 200, 1, 0)), none, many, none)) {
		t.Errorf("Snapshot: %v", got)
	}
}

// P17.2: a run whose tag waits already, as that of another region's, counts there, and that is all.
func TestRunOfWaitingTag(t *testing.T) {
	s := began(t, 3)
	feeds(t, s, 1, piece(0, adding(1, mark("a", 1, 0), mark("c", 0, 0))))
	feeds(t, s, 1, run(adding(2, mark("a", 1, 0))))
	feeds(t, s, 2, run(adding(2, mark("b", 2, 0)))) // it would be ready
	feeds(t, s, 2, run(adding(1, mark("b", 2, 0)))) // it would complete the piece
	waits(t, s, 1, 2)
	fed(t, s, 0, 2, 2)
	feeds(t, s, 2, run(adding(3, mark("b", 2, 0))), done(3, 1)) // nobody stands ahead of it
	feeds(t, s, 0, piece(0, adding(1, mark("a", 1, 0), mark("c", 0, 0))), done(1, 1, 1), done(2, 2))
	rows(t, s, row("a", 2, 1, 0), row("b", 1, 2, 0), row("c", 1, 0, 0))
	feeds(t, s, 2, run(adding(2, mark("b", 2, 0)))) // it has counted
	feeds(t, s, 2, run(adding(1, mark("b", 2, 0))))
	feeds(t, s, 0, run(adding(2, mark("c", 0, 0))), done(2, 2)) // but not here, and nobody waits with its tag
	fed(t, s, 2, 2, 5)
}

// P17.2: a piece whose tag waits already enters with its own order's marks; what is done is the order that came first.
func TestPieceOfWaitingTag(t *testing.T) {
	s := began(t, 3)
	feeds(t, s, 1, piece(0, adding(1, mark("a", 1, 0), mark("c", 0, 0))))
	feeds(t, s, 1, run(adding(2, mark("a", 1, 0))))
	feeds(t, s, 2, piece(0, adding(2, mark("b", 2, 0), mark("c", 0, 0)))) // of c nothing, as it is region 2's piece
	feeds(t, s, 0, run(adding(3, mark("c", 0, 0))), done(3, 1))
	feeds(t, s, 2, run(adding(4, mark("b", 2, 0))))
	ahead(t, s, 2, 1)
	ahead(t, s, 4, 2)
	waits(t, s, 1, 2, 4)
	feeds(t, s, 0, piece(0, adding(1, mark("a", 1, 0), mark("c", 0, 0))), done(1, 1, 2), done(2, 2), done(4, 1))
}

// P17.2: a piece enters for its region's keys alone.
func TestPartOfPiece(t *testing.T) {
	s := began(t, 3)
	o := adding(1, mark("a", 1, 0), mark("b", 2, 0), mark("d", 1, 0))
	feeds(t, s, 1, piece(0, o))
	feeds(t, s, 2, run(adding(2, mark("b", 2, 0))), done(2, 1))
	feeds(t, s, 1, run(adding(3, mark("a", 1, 0))))
	feeds(t, s, 1, run(adding(4, mark("d", 1, 0))))
	feeds(t, s, 1, run(adding(5, mark("g", 1, 0))), done(5, 1))
	for seq := uint64(3); seq <= 4; seq++ {
		ahead(t, s, seq, 1)
	}
	feeds(t, s, 2, piece(0, o), done(1, 1, 2, 1), done(3, 2), done(4, 2))
}

// P17.2: of several that have their turn, the one that came first is decided, also if it got its turn later than others.
func TestOrderOfDecisions(t *testing.T) {
	both, other := adding(9, mark("a", 1, 0), mark("b", 2, 0)), adding(5, mark("b", 2, 0), mark("c", 0, 0))
	begin := func() *Sched {
		s := began(t, 3)
		feeds(t, s, 2, piece(0, other))
		feeds(t, s, 1, piece(1, both))
		feeds(t, s, 2, run(adding(8, mark("a", 2, 1)))) // it has its turn behind the move 7
		feeds(t, s, 1, piece(2, moving(7, 2, mark("a", 1, 0))))
		feeds(t, s, 2, piece(1, both))
		feeds(t, s, 2, run(adding(4, mark("b", 2, 0))))
		waits(t, s, 5, 9, 8, 7, 4)
		return s
	}
	s := begin()
	feeds(t, s, 0, piece(0, other), done(5, 1, 1), done(9, 1, 2), done(7), done(8, 2), done(4, 3))
	waits(t, s)

	s = begin()
	feeds(t, s, 1, run(adding(6, mark("a", 1, 0)))) // behind the move it's doomed, and stands ahead of 8
	feeds(t, s, 0, piece(0, other), done(5, 1, 1), done(9, 1, 2), done(7), done(4, 3), failed(6, api.ErrStale), done(8, 2))
	waits(t, s)
}

// P17.3: a try whose mark is gone is stale as soon as it is complete, and does nothing.
func TestStale(t *testing.T) {
	s := began(t, 3)
	feeds(t, s, 1, run(adding(1, mark("a", 1, 0))), done(1, 1))
	feeds(t, s, 0, run(adding(2, mark("a", 0, 0))), failed(2, api.ErrStale)) // it was never at home there
	feeds(t, s, 1, piece(0, moving(3, 2, mark("a", 1, 0))), done(3))
	feeds(t, s, 1, run(adding(4, mark("a", 1, 0), mark("d", 1, 0))), failed(4, api.ErrStale))
	feeds(t, s, 1, piece(1, moving(5, 1, mark("a", 1, 0))), failed(5, api.ErrStale))
	feeds(t, s, 1, run(adding(6, mark("d", 1, 0))), done(6, 1))
	rows(t, s, row("a", 1, 2, 1), row("d", 1, 1, 0))
	waits(t, s)
}

// P17.2, P17.3: a doomed try that isn't complete isn't decided, and stands in the lines of its other keys.
func TestDoomedWaits(t *testing.T) {
	s := began(t, 3)
	feeds(t, s, 1, piece(0, moving(1, 2, mark("a", 1, 0))), done(1))
	both := adding(2, mark("a", 1, 0), mark("b", 2, 0), mark("d", 1, 0))
	feeds(t, s, 1, piece(1, both))
	feeds(t, s, 1, run(adding(3, mark("d", 1, 0))))
	feeds(t, s, 2, run(adding(4, mark("b", 2, 0))), done(4, 1))
	waits(t, s, 2, 3)
	ahead(t, s, 3, 2)
	feeds(t, s, 2, piece(1, both), failed(2, api.ErrStale), done(3, 1))
	rows(t, s, moved("a", 2, 1), row("b", 1, 2, 0), row("d", 1, 1, 0))
}

// P17.2: a doomed try that is complete is decided, whoever stands ahead of it.
func TestDoomedIsNotReady(t *testing.T) {
	s := began(t, 3)
	feeds(t, s, 1, piece(0, moving(1, 2, mark("a", 1, 0))), done(1))
	feeds(t, s, 1, piece(1, adding(2, mark("c", 0, 0), mark("d", 1, 0))))
	feeds(t, s, 1, run(adding(3, mark("a", 1, 0), mark("d", 1, 0))), failed(3, api.ErrStale))
	waits(t, s, 2)
}

// P17.3: behind a move, those that stand in line for its key are stale; those that waited for it stand in line.
func TestMoved(t *testing.T) {
	s := began(t, 3)
	both := adding(1, mark("a", 1, 0), mark("b", 2, 0))
	feeds(t, s, 1, piece(0, both))
	feeds(t, s, 0, run(adding(4, mark("a", 0, 1))))
	feeds(t, s, 0, piece(3, moving(5, 0, mark("a", 0, 1))))
	feeds(t, s, 0, run(adding(6, mark("a", 0, 2), mark("c", 0, 0))))
	feeds(t, s, 1, piece(2, moving(2, 0, mark("a", 1, 0))))
	feeds(t, s, 1, run(adding(3, mark("a", 1, 0), mark("d", 1, 0))))
	feeds(t, s, 1, run(adding(7, mark("d", 1, 0))))
	feeds(t, s, 0, run(adding(8, mark("c", 0, 0))))
	waits(t, s, 1, 4, 5, 6, 2, 3, 7, 8)
	ahead(t, s, 3, 1, 2)
	ahead(t, s, 4)
	ahead(t, s, 8, 6)
	// 3 is ahead of 4 in line.
	want := []api.Decision{done(1, 1, 1), done(2), failed(3, api.ErrStale), done(4, 2), done(5), done(6, 3, 1), done(7, 1), done(8, 2)}
	feeds(t, s, 2, piece(0, both), want...)
	rows(t, s, row("a", 3, 0, 2), row("b", 1, 2, 0), row("c", 2, 0, 0), row("d", 1, 1, 0))
	waits(t, s)
}

// P17.3: a run that gives up writes nothing, and puts nothing out; it leaves as others do.
func TestGivesUp(t *testing.T) {
	s := began(t, 3)
	both := adding(1, mark("a", 1, 0), mark("b", 2, 0))
	feeds(t, s, 1, piece(0, both))
	feeds(t, s, 1, run(givingUp(2, mark("a", 1, 0))))
	feeds(t, s, 1, run(adding(3, mark("a", 1, 0))))
	feeds(t, s, 2, piece(0, both), done(1, 1, 1), failed(2, api.ErrAbort), done(3, 2))
	rows(t, s, row("a", 2, 1, 0), row("b", 1, 2, 0))
	over := adding(4, mark("a", 1, 0))
	over.Txn.Ops[0].N = math.MaxInt64
	feeds(t, s, 1, run(over), failed(4, api.ErrOver))
	rows(t, s, row("a", 2, 1, 0), row("b", 1, 2, 0))
}

// P17.3: what a try puts out and writes is what layer 7 says.
func TestValues(t *testing.T) {
	s := began(t, 3)
	o := adding(1, mark("a", 1, 0), mark("d", 1, 0))
	long := bytes.Repeat([]byte{7}, api.MaxValue)
	o.Txn.Ops = []api.Op{
		{Kind: api.OpWrite, Key: "a", Value: long}, {Kind: api.OpWrite, Key: "d", Value: long}, {Kind: api.OpRead, Key: "a"},
		{Kind: api.OpDelete, Key: "a"}, {Kind: api.OpRead, Key: "a"}, {Kind: api.OpEmit},
	}
	want := failed(1, api.OK)
	want.Result.Outs = []api.Out{{Has: true, Value: long}, {}, {Has: true}}
	feeds(t, s, 1, run(o), want)
	rows(t, s, api.Row{Key: "d", Record: api.Record{Has: true, Value: long, Home: 1}})
}

// P17.3: a move of a key whose counter can't go on is ErrOver, and those behind it are as they were.
func TestMoveOver(t *testing.T) {
	s := restored(t, written(3, stored(t, 3, moved("a", 1, math.MaxUint64)), none, none, none), 3)
	both := adding(1, mark("a", 1, math.MaxUint64), mark("b", 2, 0))
	feeds(t, s, 1, piece(0, both))
	feeds(t, s, 1, piece(1, moving(2, 2, mark("a", 1, math.MaxUint64))))
	feeds(t, s, 1, run(adding(3, mark("a", 1, math.MaxUint64))))
	feeds(t, s, 2, piece(0, both), done(1, 1, 1), failed(2, api.ErrOver), done(3, 2))
	rows(t, s, row("a", 2, 1, math.MaxUint64), row("b", 1, 2, 0))
}

// P17.3: a try that was decided isn't among those that came: its tag may come anew.
func TestDecidedComesAnew(t *testing.T) {
	s := began(t, 3)
	feeds(t, s, 1, piece(0, moving(1, 1, mark("a", 1, 0))), done(1))
	feeds(t, s, 1, piece(1, moving(1, 1, mark("a", 1, 1))), done(1))
	both := adding(1, mark("a", 1, 2), mark("b", 2, 0))
	feeds(t, s, 1, piece(2, both))
	feeds(t, s, 2, piece(2, both), done(1, 1, 1))
	feeds(t, s, 1, piece(3, both))
	feeds(t, s, 1, run(adding(2, mark("a", 1, 2))))
	waits(t, s, 1, 2)
	feeds(t, s, 2, piece(3, both), done(1, 2, 2), done(2, 3))
}

// P17.4: tries wait in the order in which they came, whatever their tags are, and whichever way they came.
func TestWaiting(t *testing.T) {
	s := began(t, 3)
	feeds(t, s, 2, piece(0, adding(5, mark("a", 1, 0), mark("b", 2, 0))))
	feeds(t, s, 2, run(adding(3, mark("b", 2, 0))))
	feeds(t, s, 0, piece(0, adding(4, mark("b", 2, 0), mark("c", 0, 0))))
	feeds(t, s, 0, run(adding(7, mark("q", 0, 1))))
	feeds(t, s, 2, piece(1, adding(4, mark("b", 2, 0), mark("c", 0, 0))))
	feeds(t, s, 2, run(adding(1, mark("b", 2, 0))))
	waits(t, s, 5, 3, 4, 7, 1)
	ahead(t, s, 5)
	ahead(t, s, 3, 5)
	ahead(t, s, 4, 5, 3)
	ahead(t, s, 1, 5, 3, 4)
	ahead(t, s, 7)
	ahead(t, s, 9)
	feeds(t, s, 1, piece(0, adding(5, mark("a", 1, 0), mark("b", 2, 0))), done(5, 1, 1), done(3, 2), done(4, 3, 1), done(1, 4))
	waits(t, s, 7)
	if slices.Contains(s.Waiting(), numbered(5)) {
		t.Error("a try that was decided waits")
	}
}
