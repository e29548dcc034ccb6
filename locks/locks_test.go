package locks

import (
	"math"
	"strings"
	"testing"

	"argosy/api"
)

// The chapter's example.
func TestExample(t *testing.T) {
	s, l := empty(t), New()
	l.Enter(s, numbered(1), marks(s, "a"))
	l.Enter(s, numbered(2), marks(s, "a", "b"))
	tells(t, l, numbered(1), told{ready: true})
	tells(t, l, numbered(2), told{ahead: numberedAll(1)})
	l.Leave(numbered(1))
	tells(t, l, numbered(2), told{ready: true})
}

// P16.1: nobody waits, and who stands in no line is ready.
func TestNew(t *testing.T) {
	l := New()
	keys(t, l)
	for _, key := range []string{"", "a", "\xff"} {
		waits(t, l, key, nil, nil)
	}
	for _, tag := range nearTags() {
		tells(t, l, tag, told{ready: true})
	}
}

// P16.1: each Locks is by itself.
func TestLocksAreByThemselves(t *testing.T) {
	s, l, other := empty(t), New(), New()
	l.Enter(s, numbered(1), []api.Mark{mark("a", 1, 0), mark("b", 0, 1), mark("c", 1, 0)})
	keys(t, other)
	tells(t, other, numbered(1), told{ready: true})
	other.Leave(numbered(1))
	waits(t, l, "a", numberedAll(1), nil)
	waits(t, l, "b", nil, numberedAll(1))
	tells(t, l, numbered(1), told{doomed: true})
}

// P16.2: where one mark belongs, of any home and count, at records of any home and count.
func TestEnterOneMark(t *testing.T) {
	counts := []uint64{0, 1, 2, 1 << 63, math.MaxUint64 - 1, math.MaxUint64}
	for home := range 3 {
		for _, count := range counts {
			if count == 0 && home != 1 {
				continue // there is no such record of a
			}
			s := empty(t)
			if count > 0 {
				s = counted(t, home, count)
			}
			for _, h := range []int{math.MinInt, -1, 0, 1, 2, 3, math.MaxInt} {
				for _, c := range counts {
					l := New()
					l.Enter(s, numbered(1), []api.Mark{mark("a", h, c)})
					switch {
					case h == home && c == count:
						waits(t, l, "a", numberedAll(1), nil)
						tells(t, l, numbered(1), told{ready: true})
					case c > count:
						waits(t, l, "a", nil, numberedAll(1))
						tells(t, l, numbered(1), told{})
					default:
						waits(t, l, "a", nil, nil)
						tells(t, l, numbered(1), told{doomed: true, ready: true})
					}
					if t.Failed() {
						t.Fatalf("%d, %d at %d, %d", h, c, home, count)
					}
				}
			}
		}
	}
}

// P16.2: each mark has its place by itself, and by the record of its own key.
func TestEnterMarks(t *testing.T) {
	s, l := empty(t), New()
	moves(t, s, "b", 0)
	moves(t, s, "m", 0)
	moves(t, s, "m", 2)
	l.Enter(s, numbered(1), []api.Mark{mark("a", 1, 0), mark("b", 0, 1), mark("c", 0, 0), mark("m", 2, 2)})
	for _, key := range []string{"a", "b", "c", "m"} {
		waits(t, l, key, numberedAll(1), nil)
	}
	l.Enter(s, numbered(2), []api.Mark{mark("a", 1, 1), mark("b", 0, 1), mark("d", 1, 0), mark("m", 0, 1)})
	waits(t, l, "a", numberedAll(1), numberedAll(2))
	waits(t, l, "b", numberedAll(1, 2), nil)
	waits(t, l, "m", numberedAll(1), nil)
	tells(t, l, numbered(1), told{ready: true})
	tells(t, l, numbered(2), told{doomed: true, ahead: numberedAll(1)})
	l.Enter(s, numbered(3), []api.Mark{mark("m", 0, 1), mark("m", 2, 2), mark("", 0, 0)}) // what is behind a gone mark has its place, too
	waits(t, l, "m", numberedAll(1, 3), nil)
	waits(t, l, "", numberedAll(3), nil)
	tells(t, l, numbered(3), told{doomed: true, ahead: numberedAll(1)})
	keys(t, l, "", "a", "b", "c", "d", "m")
	l.Enter(s, numbered(4), nil)
	l.Enter(s, numbered(4), []api.Mark{})
	tells(t, l, numbered(4), told{ready: true})
}

// P16.2: who comes is the last one, in line and of the parked ones.
func TestEnterInOrder(t *testing.T) {
	s, l := empty(t), New()
	for _, seq := range []uint64{5, 1, 9, 3} {
		l.Enter(s, numbered(seq), marks(s, "a"))
		l.Enter(s, numbered(seq+10), []api.Mark{mark("a", 2, seq)})
	}
	waits(t, l, "a", numberedAll(5, 1, 9, 3), numberedAll(15, 11, 19, 13))
	tells(t, l, numbered(3), told{ahead: numberedAll(5, 1, 9)})
	tells(t, l, numbered(13), told{})
}

// P16.2: a mark of a key for which the tag waits already is nothing: it changes no place and no mark, and dooms nobody.
func TestEnterAgain(t *testing.T) {
	now, later, gone := mark("a", 1, 0), mark("a", 2, 1), mark("a", 2, 0)
	for _, again := range []api.Mark{now, later, mark("a", 0, 2), gone} {
		s, l := empty(t), New()
		l.Enter(s, numbered(1), []api.Mark{now, again})
		l.Enter(s, numbered(2), []api.Mark{later, again})
		l.Enter(s, numbered(3), []api.Mark{now})
		l.Enter(s, numbered(4), []api.Mark{later})
		l.Enter(s, numbered(1), []api.Mark{again})
		l.Enter(s, numbered(2), []api.Mark{again, again})
		waits(t, l, "a", numberedAll(1, 3), numberedAll(2, 4))
		tells(t, l, numbered(1), told{ready: true})
		tells(t, l, numbered(2), told{})
		moves(t, s, "a", 2)
		l.Moved(s, "a")
		waits(t, l, "a", numberedAll(1, 3, 2, 4), nil)
		tells(t, l, numbered(1), told{doomed: true, ready: true})
		tells(t, l, numbered(2), told{ahead: numberedAll(1, 3)})
	}
}

// P16.2: a gone mark leaves no place behind it, so that a later one of the same key counts.
func TestEnterBehindGone(t *testing.T) {
	s, l := empty(t), New()
	gone := mark("a", 2, 0)
	l.Enter(s, numbered(1), []api.Mark{gone, gone})
	waits(t, l, "a", nil, nil)
	keys(t, l)
	l.Enter(s, numbered(1), []api.Mark{mark("a", 1, 5)})
	waits(t, l, "a", nil, numberedAll(1))
	l.Enter(s, numbered(2), []api.Mark{gone})
	l.Enter(s, numbered(2), marks(s, "a", "b"))
	waits(t, l, "a", numberedAll(2), numberedAll(1))
	tells(t, l, numbered(1), told{doomed: true})
	tells(t, l, numbered(2), told{doomed: true, ready: true})
}

// P16.2, P16.4: a tag is another one, if anything of it is.
func TestTags(t *testing.T) {
	s, l := empty(t), New()
	for _, tag := range nearTags() {
		l.Enter(s, tag, marks(s, "a"))
		l.Enter(s, tag, []api.Mark{mark("b", 0, 1), mark("a", 1, 0)})
	}
	waits(t, l, "a", nearTags(), nil)
	waits(t, l, "b", nil, nearTags())
	for i, tag := range nearTags() {
		tells(t, l, tag, told{ahead: nearTags()[:i]})
	}
	for i, tag := range nearTags() {
		waits(t, l, "a", nearTags()[i:], nil)
		waits(t, l, "b", nil, nearTags()[i:])
		l.Enter(s, tag, []api.Mark{mark("c", 1, 0)})
		for _, other := range nearTags() {
			if l.Doomed(other) != (other == tag) {
				t.Errorf("Doomed(%v) with %v doomed: %v", other, tag, l.Doomed(other))
			}
		}
		l.Leave(tag)
		tells(t, l, tag, told{ready: true})
	}
	keys(t, l)
}

// P16.4: who leaves is nowhere, and not doomed; the others keep their places.
func TestLeave(t *testing.T) {
	s, l := empty(t), New()
	for _, seq := range []uint64{1, 2, 3} {
		l.Enter(s, numbered(seq), []api.Mark{mark("a", 1, 0), mark("b", 0, 4), mark("c", 2, 0)})
	}
	l.Enter(s, numbered(2), marks(s, "d"))
	l.Enter(s, numbered(2), []api.Mark{mark("e", 0, 1)})
	l.Leave(numbered(2))
	keys(t, l, "a", "b")
	waits(t, l, "a", numberedAll(1, 3), nil)
	waits(t, l, "b", nil, numberedAll(1, 3))
	tells(t, l, numbered(1), told{doomed: true})
	tells(t, l, numbered(2), told{ready: true})
	tells(t, l, numbered(3), told{doomed: true, ahead: numberedAll(1)})
	l.Leave(numbered(2))
	l.Leave(numbered(9))
	waits(t, l, "a", numberedAll(1, 3), nil)
	l.Enter(s, numbered(2), []api.Mark{mark("a", 1, 0), mark("b", 0, 4)}) // behind it, the tag may come anew
	waits(t, l, "a", numberedAll(1, 3, 2), nil)
	waits(t, l, "b", nil, numberedAll(1, 3, 2))
	tells(t, l, numbered(2), told{ahead: numberedAll(1, 3)})
	l.Leave(numbered(1))
	l.Leave(numbered(3))
	l.Leave(numbered(2))
	keys(t, l)
	waits(t, l, "a", nil, nil)
	waits(t, l, "b", nil, nil)
}

// P16.4: who has left isn't met by a move any more.
func TestMovedBehindLeave(t *testing.T) {
	s, l := empty(t), New()
	for _, seq := range []uint64{1, 2} {
		l.Enter(s, numbered(seq), marks(s, "a"))
		l.Enter(s, numbered(seq+10), []api.Mark{mark("a", 0, 1)})
	}
	l.Leave(numbered(1))
	l.Leave(numbered(11))
	moves(t, s, "a", 0)
	l.Moved(s, "a")
	waits(t, l, "a", numberedAll(2, 12), nil)
	tells(t, l, numbered(1), told{ready: true})
	tells(t, l, numbered(11), told{ready: true})
	tells(t, l, numbered(2), told{doomed: true, ready: true})
}

// P16.4: Ready is who is the first one in each line in which it stands, and parked nowhere.
func TestReady(t *testing.T) {
	s, l := empty(t), New()
	l.Enter(s, numbered(1), marks(s, "a", "b"))
	l.Enter(s, numbered(2), marks(s, "c", "d"))
	l.Enter(s, numbered(3), marks(s, "b", "c", "e"))
	l.Enter(s, numbered(4), marks(s, "f"))
	l.Enter(s, numbered(4), []api.Mark{mark("g", 0, 1)})
	l.Enter(s, numbered(5), marks(s, "g"))
	l.Enter(s, numbered(6), []api.Mark{mark("a", 0, 0)})
	ready := func(want ...bool) {
		t.Helper()
		for i, w := range want {
			if got := l.Ready(numbered(uint64(i + 1))); got != w {
				t.Errorf("Ready of %d: %v, want %v", i+1, got, w)
			}
		}
	}
	ready(true, true, false, false, true, true, true)
	l.Leave(numbered(1))
	ready(true, true, false, false, true, true)
	l.Leave(numbered(2))
	ready(true, true, true, false, true, true)
	moves(t, s, "g", 0)
	l.Moved(s, "g")
	ready(true, true, true, false, true, true)
	l.Leave(numbered(5))
	ready(true, true, true, true, true, true)
}

// P16.4, P16.5: who is ahead counts also if it is doomed, or parked elsewhere.
func TestDoomedStaysInLine(t *testing.T) {
	s, l := empty(t), New()
	l.Enter(s, numbered(1), []api.Mark{mark("a", 1, 0), mark("b", 0, 0)})
	l.Enter(s, numbered(2), []api.Mark{mark("a", 1, 0), mark("b", 0, 1)})
	l.Enter(s, numbered(3), marks(s, "a"))
	tells(t, l, numbered(1), told{doomed: true, ready: true})
	tells(t, l, numbered(3), told{ahead: numberedAll(1, 2)})
	l.Leave(numbered(1))
	tells(t, l, numbered(2), told{})
	tells(t, l, numbered(3), told{ahead: numberedAll(2)})
}

// P16.5: Ahead goes through the keys that rise, through each line in its order, and has each tag where it is met first.
func TestAhead(t *testing.T) {
	s, l := empty(t), New()
	for _, entry := range []struct {
		seq  uint64
		keys []string
	}{
		{4, []string{"d", "b"}}, {3, []string{"c"}}, {2, []string{"d", "c", "b"}}, {1, []string{"a", "c"}},
		{9, []string{"d", "c", "b", "a"}}, {7, []string{"a", "d", "e"}}, {8, []string{"e"}},
	} {
		l.Enter(s, numbered(entry.seq), marks(s, entry.keys...))
	}
	for seq, ahead := range map[uint64][]api.Tag{
		1: numberedAll(3, 2),
		2: numberedAll(4, 3),
		3: nil,
		4: nil,
		5: nil,
		7: numberedAll(1, 9, 4, 2),
		8: numberedAll(7),
		9: numberedAll(1, 4, 2, 3),
	} {
		tells(t, l, numbered(seq), told{ready: len(ahead) == 0, ahead: ahead})
	}
}

// P16.5: the parked ones stand ahead of nobody, and nobody ahead of them.
func TestAheadOfParked(t *testing.T) {
	s, l := empty(t), New()
	l.Enter(s, numbered(1), []api.Mark{mark("a", 0, 1)})
	l.Enter(s, numbered(2), marks(s, "a"))
	l.Enter(s, numbered(3), []api.Mark{mark("a", 0, 1), mark("b", 2, 0)})
	tells(t, l, numbered(1), told{})
	tells(t, l, numbered(2), told{ready: true})
	tells(t, l, numbered(3), told{})
	l.Enter(s, numbered(4), marks(s, "a", "b"))
	tells(t, l, numbered(4), told{ahead: numberedAll(2, 3)})
}

// P16.5: Keys rise byte by byte, whether they have a line, or parked ones, or both.
func TestKeys(t *testing.T) {
	s, l := empty(t), New()
	long := strings.Repeat("k", 5000)
	want := []string{"", "\x00", "A", "Z", "a", "aa", "ab", "b", "k", long, "\x80", "\xc3\xa4", "\xff", "\xff\xff"}
	for i := range want {
		key := want[(i*5+3)%len(want)]
		tag := numbered(uint64(i))
		record := s.Get(key)
		if i%3 > 0 {
			l.Enter(s, tag, marks(s, key))
		}
		if i%3 < 2 {
			l.Enter(s, numbered(100), []api.Mark{mark(key, record.Home, 1)})
		}
	}
	keys(t, l, want...)
	l.Leave(numbered(100))
	for i := range want {
		l.Leave(numbered(uint64(i)))
	}
	keys(t, l)
}
