package front

import (
	"math"
	"strings"
	"testing"

	"argosy/api"
	"argosy/sched"
)

// P21.1: a front without submissions.
func TestNew(t *testing.T) {
	f := began()
	opens(t, f)
	orders(t, f, scheduled(t))
	for seq := range uint64(3) {
		silent(t, f, decided(tryOf(seq, 0), api.OK))
		finds(t, f, tryOf(seq, 0), false)
	}
	opens(t, f)
}

// P21.1: ids have the front's node and life, whichever these are.
func TestNodesAndLives(t *testing.T) {
	s := scheduled(t)
	for _, node := range []int{math.MinInt, -1, 0, 1, 8, 9, math.MaxInt} {
		for _, epoch := range []uint64{0, 1, 1 << 63, math.MaxUint64} {
			f := New(node, epoch, 3)
			for seq := uint64(1); seq <= 3; seq++ {
				want := api.Id{Node: node, Epoch: epoch, Seq: seq}
				if id, err := f.Submit(reading("a")); id != want || err != api.OK {
					t.Errorf("Submit: %v, %v, want %v", id, err, want)
				}
			}
			for i, o := range f.Orders(s) {
				if o.Tag != tagOf(node, epoch, uint64(i+1), 0) {
					t.Errorf("the order %d has the tag %v", i, o.Tag)
				}
			}
			if _, ok := f.Full(tagOf(node, epoch, 2, 0)); !ok {
				t.Errorf("Full at node %d, life %d: false", node, epoch)
			}
			if ids := f.Open(); len(ids) != 2 || ids[1] != (api.Id{Node: node, Epoch: epoch, Seq: 3}) {
				t.Errorf("Open: %v", ids)
			}
		}
	}
}

// P21.1: what is right for so many regions is taken; of another number of regions nothing is.
func TestRegions(t *testing.T) {
	for _, regions := range []int{math.MinInt, -1, 0, 1, 2, 3, 4, math.MaxInt} {
		f := New(4, 7, regions)
		for to := -1; to <= 4; to++ {
			want := api.OK
			if to < 0 || to >= regions || regions > 3 {
				want = api.ErrArg
			}
			if _, err := f.Submit(moving("a", to)); err != want {
				t.Errorf("of %d regions, a move to %d: %v", regions, to, err)
			}
		}
		want := api.ErrArg
		if regions >= 1 && regions <= 3 {
			want = api.OK
		}
		if _, err := f.Submit(reading("a")); err != want {
			t.Errorf("of %d regions, a run: %v", regions, err)
		}
	}
}

// wrong gives transactions that aren't right for three regions.
func wrong() []api.Txn {
	many := api.Txn{Kind: api.TxRun}
	for range 17 {
		many.Ops = append(many.Ops, api.Op{Kind: api.OpEmit})
	}
	return []api.Txn{
		{},
		{Kind: 3},
		reading("b", "a"),
		reading("a", "a"),
		reading(""),
		reading(strings.Repeat("k", 17)),
		reading("1", "2", "3", "4", "5", "6", "7", "8", "9"),
		writing(strings.Repeat("v", 33), "a"),
		{Kind: api.TxRun, Reads: []string{"a"}, Writes: []string{"a"}},
		{Kind: api.TxRun, Reads: []string{"a"}, Ops: []api.Op{{Kind: api.OpWrite, Key: "a"}}},
		{Kind: api.TxRun, To: 1},
		many,
		moving("a", 3),
		moving("a", -1),
		{Kind: api.TxMove},
		{Kind: api.TxMove, Writes: []string{"a", "b"}},
		{Kind: api.TxMove, Reads: []string{"b"}, Writes: []string{"a"}},
	}
}

// P21.1: what isn't right isn't taken, and has no number.
func TestWrong(t *testing.T) {
	f, s := began(), scheduled(t)
	for _, txn := range wrong() {
		refuses(t, f, txn, api.ErrArg)
	}
	opens(t, f)
	orders(t, f, s)
	submits(t, f, 1, reading("a"))
	for _, txn := range wrong() {
		refuses(t, f, txn, api.ErrArg)
	}
	opens(t, f, 1)
	submits(t, f, 2, moving("a", 2))
	opens(t, f, 1, 2)
	orders(t, f, s, orderOf(tryOf(1, 0), reading("a"), mark("a", 1, 0)), orderOf(tryOf(2, 0), moving("a", 2), mark("a", 1, 0)))
}

// crowd gives a front with as many open submissions as there may be.
func crowd(t *testing.T) *Front {
	t.Helper()
	f := began()
	for seq := uint64(1); seq <= 64; seq++ {
		submits(t, f, seq, reading("a"))
		if got := len(f.Open()); got != int(seq) {
			t.Fatalf("%d are open, want %d", got, seq)
		}
	}
	return f
}

// P21.1: no more open ones than there may be; what isn't right is so, also then; what isn't taken has no number.
func TestFullFront(t *testing.T) {
	f, s := crowd(t), scheduled(t)
	for range 3 {
		refuses(t, f, reading("a"), api.ErrFull)
		refuses(t, f, moving("a", 3), api.ErrArg)
	}
	if got := f.Orders(s); len(got) != 64 || got[63].Tag != tryOf(64, 0) {
		t.Errorf("%d orders", len(got))
	}
	silent(t, f, decided(tryOf(9, 0), api.ErrStale))
	refuses(t, f, reading("a"), api.ErrFull)
	replies(t, f, decided(tryOf(1, 0), api.OK), api.Result{})
	submits(t, f, 65, reading("a"))
	refuses(t, f, reading("a"), api.ErrFull)
	finds(t, f, tryOf(64, 0), true)
	finds(t, f, tryOf(30, 0), true)
	submits(t, f, 66, reading("a"), reading("a"))
	refuses(t, f, reading("a"), api.ErrFull)
	ids := f.Open()
	if len(ids) != 64 || ids[0] != idOf(2) || ids[28] != idOf(31) || ids[60] != idOf(63) || ids[61] != idOf(65) || ids[63] != idOf(67) {
		t.Errorf("Open: %v", ids)
	}
}

// P21.1: numbers go on, whatever became of the ones ahead, far beyond the number of those that may be open.
func TestNumbersGoOn(t *testing.T) {
	f, s := began(), scheduled(t)
	for seq := uint64(1); seq <= 300; seq++ {
		submits(t, f, seq, reading("a"))
		opens(t, f, seq)
		f.Orders(s)
		if seq%2 == 0 {
			replies(t, f, decided(tryOf(seq, 0), api.OK), api.Result{})
		} else {
			finds(t, f, tryOf(seq, 0), true)
		}
		opens(t, f)
	}
}

// P21.2: what is told of another number of regions is that of the sched.
func TestAnotherSched(t *testing.T) {
	f := began()
	submits(t, f, 1, reading("b"))
	s, err := sched.New(2)
	if err != api.OK {
		t.Fatal(err)
	}
	orders(t, f, s, orderOf(tryOf(1, 0), reading("b"), mark("b", 0, 0)))
	orders(t, f, scheduled(t), orderOf(tryOf(1, 0), reading("b"), mark("b", 0, 0)))
	silent(t, f, decided(tryOf(1, 0), api.ErrStale))
	orders(t, f, scheduled(t), orderOf(tryOf(1, 1), reading("b"), mark("b", 2, 0)))
}
