package locks

import (
	"bytes"
	"math"
	"slices"
	"strings"
	"testing"

	"argosy/api"
)

// waiting gives Locks in which some stand and are parked for a and b, and one is doomed.
func waiting(t *testing.T) *Locks {
	t.Helper()
	s, l := empty(t), New()
	for _, seq := range []uint64{1, 2, 3} {
		l.Enter(s, numbered(seq), marks(s, "a", "b"))
		l.Enter(s, numbered(seq+10), []api.Mark{mark("a", 0, 1), mark("b", 0, seq)})
	}
	l.Enter(s, numbered(4), []api.Mark{mark("c", 2, 0)})
	return l
}

// P16.6: what is handed in isn't changed, its spare room neither.
func TestGivenIsLeft(t *testing.T) {
	s, l := empty(t), New()
	s.Put("a", []byte("value"))
	moves(t, s, "b", 0)
	before := s.Snapshot()
	given := slices.Grow([]api.Mark{mark("b", 0, 1), mark("a", 2, 1), mark("c", 2, 0), mark("a", 1, 0), mark("b", 0, 1)}, 9)
	kept := slices.Clone(given[:cap(given)])
	for _, seq := range []uint64{1, 2} {
		l.Enter(s, numbered(seq), given)
		l.Moved(s, "a")
		l.Moved(s, "b")
		l.Moved(s, "q")
		l.Ahead(numbered(seq))
		l.Leave(numbered(seq))
	}
	if !slices.Equal(given[:cap(given)], kept) {
		t.Errorf("the marks were changed: %v", given[:cap(given)])
	}
	if !bytes.Equal(s.Snapshot(), before) {
		t.Error("the store was changed")
	}
}

// P16.6: what is handed in isn't kept: neither the marks, nor the store.
func TestGivenIsNotKept(t *testing.T) {
	s, l := empty(t), New()
	given := []api.Mark{mark("a", 1, 0), mark("b", 0, 1)}
	l.Enter(s, numbered(1), given)
	clear(given[:cap(given)])
	moves(t, s, "a", 0)
	waits(t, l, "a", numberedAll(1), nil)
	waits(t, l, "b", nil, numberedAll(1))
	tells(t, l, numbered(1), told{})
	other := empty(t)
	l.Moved(other, "a") // by this store's records all is as it was
	tells(t, l, numbered(1), told{})
	moves(t, other, "b", 0)
	l.Moved(other, "b")
	waits(t, l, "b", numberedAll(1), nil)
	tells(t, l, numbered(1), told{ready: true})
}

// P16.6: answers are new memory: what is done to one is seen nowhere else.
func TestAnswersAreNew(t *testing.T) {
	l := waiting(t)
	lists := func() [][]api.Tag {
		return [][]api.Tag{l.Queue("a"), l.Queue("b"), l.Parked("a"), l.Parked("b"), l.Ahead(numbered(2)), l.Ahead(numbered(3))}
	}
	want := [][]api.Tag{
		numberedAll(1, 2, 3), numberedAll(1, 2, 3), numberedAll(11, 12, 13), numberedAll(11, 12, 13), numberedAll(1), numberedAll(1, 2),
	}
	for i := range want {
		one, other := lists(), lists()
		names, again := l.Keys(), l.Keys()
		clear(one[i][:cap(one[i])])
		clear(names[:cap(names)])
		for k := range want {
			if k != i && !slices.Equal(one[k], want[k]) || !slices.Equal(other[k], want[k]) {
				t.Errorf("the answer %d shares memory with %d", i, k)
			}
		}
		if !slices.Equal(again, []string{"a", "b"}) {
			t.Errorf("Keys share memory: %q", again)
		}
	}
	waits(t, l, "a", want[0], want[2])
	waits(t, l, "b", want[1], want[3])
	keys(t, l, "a", "b")
}

// P16.6: an answer stays as it was given, whatever is called behind it.
func TestAnswersStay(t *testing.T) {
	s, l := empty(t), waiting(t)
	queue, parked, ahead, names := l.Queue("a"), l.Parked("a"), l.Ahead(numbered(3)), l.Keys()
	moves(t, s, "a", 0)
	l.Leave(numbered(1))
	l.Moved(s, "a")
	l.Leave(numbered(12))
	l.Enter(s, numbered(5), marks(s, "a", "A"))
	if !slices.Equal(queue, numberedAll(1, 2, 3)) || !slices.Equal(parked, numberedAll(11, 12, 13)) {
		t.Errorf("%v, %v", queue, parked)
	}
	if !slices.Equal(ahead, numberedAll(1, 2)) || !slices.Equal(names, []string{"a", "b"}) {
		t.Errorf("%v, %q", ahead, names)
	}
}

// P1: calls of any arguments end.
func TestAnyArguments(t *testing.T) {
	s := empty(t)
	moves(t, s, "", 2)
	names := []string{"", "a", "\x00", "\xff", strings.Repeat("k", 5000)}
	var many []api.Mark
	for i := range 2000 {
		many = append(many, mark(strings.Repeat("k", i*7919%2000), i%5-1, uint64(i%3)))
	}
	l := New()
	for _, number := range []int{math.MinInt, -1, 0, 1, math.MaxInt} {
		for _, other := range []uint64{0, 1, math.MaxUint64} {
			tag := tagOf(number, other, ^other, -number)
			l.Enter(s, tag, many)
			for _, name := range names {
				l.Enter(s, tag, []api.Mark{mark(name, number, other), mark(name, -number, ^other), {}})
				l.Moved(s, name)
				l.Ready(tag)
				l.Ahead(tag)
				l.Doomed(tag)
				l.Leave(tagOf(-number, ^other, other, number))
			}
		}
	}
	for _, name := range append(names, l.Keys()...) {
		l.Queue(name)
		l.Parked(name)
	}
}
