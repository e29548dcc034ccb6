package locks

import (
	"math"
	"testing"

	"argosy/api"
)

// P16.3: those in line are doomed and stay; of the parked ones some come into line, some are doomed, some stay, all in order.
func TestMoved(t *testing.T) {
	s, l := empty(t), New()
	enter := func(seq uint64, home int, count uint64) {
		l.Enter(s, numbered(seq), []api.Mark{mark("a", home, count)})
	}
	for _, seq := range []uint64{2, 1} {
		enter(seq, 1, 0)
	}
	enter(19, 0, 1)
	enter(30, 2, 2)
	enter(18, 0, 1)
	enter(21, 1, 1)
	enter(29, 0, 2)
	enter(20, 2, 1)
	enter(17, 0, 1)
	moves(t, s, "a", 0)
	waits(t, l, "a", numberedAll(2, 1), numberedAll(19, 30, 18, 21, 29, 20, 17)) // nothing is looked at ahead of Moved
	tells(t, l, numbered(1), told{ahead: numberedAll(2)})
	l.Moved(s, "a")
	waits(t, l, "a", numberedAll(2, 1, 19, 18, 17), numberedAll(30, 29))
	for seq, want := range map[uint64]told{
		1:  {doomed: true, ahead: numberedAll(2)},
		2:  {doomed: true, ready: true},
		17: {ahead: numberedAll(2, 1, 19, 18)},
		18: {ahead: numberedAll(2, 1, 19)},
		19: {ahead: numberedAll(2, 1)},
		20: {doomed: true, ready: true},
		21: {doomed: true, ready: true},
		29: {},
		30: {},
	} {
		tells(t, l, numbered(seq), want)
	}
	moves(t, s, "a", 2)
	l.Moved(s, "a")
	waits(t, l, "a", numberedAll(2, 1, 19, 18, 17, 30), nil)
	for seq, doomed := range map[uint64]bool{17: true, 18: true, 19: true, 29: true, 30: false} {
		if l.Doomed(numbered(seq)) != doomed {
			t.Errorf("Doomed of %d: %v", seq, !doomed)
		}
	}
}

// P16.3: whether one in line is doomed hangs on the record, not on that there was a move.
func TestMovedWithoutMove(t *testing.T) {
	s, l := empty(t), New()
	l.Enter(s, numbered(1), []api.Mark{mark("a", 1, 0), mark("b", 0, 1)})
	l.Enter(s, numbered(2), []api.Mark{mark("a", 2, 2), mark("b", 2, 0)})
	for _, key := range []string{"a", "b", "c", "", "\xff"} {
		l.Moved(s, key)
	}
	waits(t, l, "a", numberedAll(1), numberedAll(2))
	waits(t, l, "b", numberedAll(2), numberedAll(1))
	tells(t, l, numbered(1), told{})
	tells(t, l, numbered(2), told{})
	keys(t, l, "a", "b")
}

// P16.3: a move to the same home, and one back to it, are moves.
func TestMovedHome(t *testing.T) {
	for _, homes := range [][]int{{1}, {0, 1}} {
		s, l := empty(t), New()
		l.Enter(s, numbered(1), marks(s, "a"))
		l.Enter(s, numbered(2), []api.Mark{mark("a", 1, uint64(len(homes)))})
		for _, home := range homes {
			moves(t, s, "a", home)
		}
		l.Moved(s, "a")
		waits(t, l, "a", numberedAll(1, 2), nil)
		tells(t, l, numbered(1), told{doomed: true, ready: true})
		tells(t, l, numbered(2), told{ahead: numberedAll(1)})
	}
}

// P16.3: a move of one key changes nothing of others, also if their records have changed.
func TestMovedAlone(t *testing.T) {
	s, l := empty(t), New()
	for _, key := range []string{"a", "b", "aa", ""} {
		l.Enter(s, numbered(1), marks(s, key))
		l.Enter(s, numbered(2), []api.Mark{mark(key, 0, 1)})
		l.Enter(s, numbered(3), []api.Mark{mark(key, 0, 2)})
		moves(t, s, key, 0)
	}
	l.Moved(s, "c")
	tells(t, l, numbered(1), told{ready: true})
	l.Moved(s, "b")
	waits(t, l, "b", numberedAll(1, 2), numberedAll(3))
	for _, key := range []string{"a", "aa", ""} {
		waits(t, l, key, numberedAll(1), numberedAll(2, 3))
	}
	tells(t, l, numbered(1), told{doomed: true, ready: true})
	tells(t, l, numbered(2), told{ahead: numberedAll(1)})
	keys(t, l, "", "a", "aa", "b")
}

// P16.3, P16.5: a key for which all parked ones are doomed is no key any more.
func TestMovedPast(t *testing.T) {
	s, l := empty(t), New()
	l.Enter(s, numbered(1), []api.Mark{mark("a", 0, 1), mark("b", 0, 1)})
	l.Enter(s, numbered(2), []api.Mark{mark("a", 2, 1)})
	moves(t, s, "a", 1)
	l.Moved(s, "a")
	waits(t, l, "a", nil, nil)
	keys(t, l, "b")
	tells(t, l, numbered(1), told{doomed: true}) // it is parked at b
	tells(t, l, numbered(2), told{doomed: true, ready: true})
	l.Enter(s, numbered(1), marks(s, "a")) // it waits for a no more, so that it comes there anew
	waits(t, l, "a", numberedAll(1), nil)
}

// P16.3: once a doomed one has left, who came behind the move is ready.
func TestMovedThenLeave(t *testing.T) {
	s, l := empty(t), New()
	l.Enter(s, numbered(1), marks(s, "a")) // the move itself
	l.Enter(s, numbered(2), marks(s, "a", "b"))
	l.Enter(s, numbered(3), []api.Mark{mark("a", 2, 1), mark("b", 2, 0)})
	moves(t, s, "a", 2)
	l.Leave(numbered(1))
	l.Moved(s, "a")
	tells(t, l, numbered(1), told{ready: true})
	tells(t, l, numbered(2), told{doomed: true, ready: true})
	tells(t, l, numbered(3), told{ahead: numberedAll(2)})
	l.Leave(numbered(2))
	tells(t, l, numbered(3), told{ready: true})
}

// P16.3: a record whose Count is less than a mark's in line is another one, too: stores are handed in call by call.
func TestMovedByAnotherStore(t *testing.T) {
	l := New()
	high := counted(t, 2, math.MaxUint64)
	l.Enter(high, numbered(1), []api.Mark{mark("a", 2, math.MaxUint64)})
	l.Enter(counted(t, 2, 5), numbered(2), []api.Mark{mark("a", 2, 5)})
	l.Enter(counted(t, 2, 5), numbered(3), []api.Mark{mark("a", 2, math.MaxUint64)})
	l.Enter(counted(t, 2, 5), numbered(4), []api.Mark{mark("a", 1, math.MaxUint64)})
	l.Moved(high, "a")
	waits(t, l, "a", numberedAll(1, 2, 3), nil)
	tells(t, l, numbered(1), told{ready: true})
	tells(t, l, numbered(2), told{doomed: true, ahead: numberedAll(1)})
	tells(t, l, numbered(3), told{ahead: numberedAll(1, 2)})
	tells(t, l, numbered(4), told{doomed: true, ready: true})
	l.Moved(empty(t), "a")
	waits(t, l, "a", numberedAll(1, 2, 3), nil)
	tells(t, l, numbered(1), told{doomed: true, ready: true})
	tells(t, l, numbered(3), told{doomed: true, ahead: numberedAll(1, 2)})
}
