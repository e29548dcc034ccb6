package route

import (
	"math"
	"slices"
	"strings"
	"testing"

	"argosy/api"
	"argosy/order"
	"argosy/store"
)

// P10.1: each key, in order and once, with its Home and its Count.
func TestMarks(t *testing.T) {
	s := made(t)
	long := strings.Repeat("\xff", 5000)
	for _, c := range []struct {
		name string
		txn  api.Txn
		want []api.Mark
	}{
		{"reads and writes", mixed(), mixedMarks()},
		{"no keys", reading(), nil},
		{"the zero transaction", api.Txn{}, nil},
		{"reads alone", reading("a", "m"), []api.Mark{mark("a", 1, 0), mark("m", 0, 2)}},
		{"writes alone", api.Txn{Kind: api.TxRun, Writes: []string{"m", "n"}}, []api.Mark{mark("m", 0, 2), mark("n", 2, 0)}},
		{"writes ahead of reads", api.Txn{Kind: api.TxRun, Reads: []string{"x"}, Writes: []string{"a"}}, []api.Mark{mark("a", 1, 0), mark("x", 1, 1)}},
		{"a move", api.Txn{Kind: api.TxMove, Writes: []string{"x"}, To: 2}, []api.Mark{mark("x", 1, 1)}},
		{"a key that another one begins with", reading("a", "aa"), []api.Mark{mark("a", 1, 0), mark("aa", 2, 0)}},
		{"keys of bytes beyond 127", reading("\x80", "\xff"), []api.Mark{mark("\x80", 2, 0), mark("\xff", 0, 0)}},
		{"keys that fall", reading("x", "m", "a"), []api.Mark{mark("a", 1, 0), mark("m", 0, 2), mark("x", 1, 1)}},
		{"a key twice", reading("m", "m"), []api.Mark{mark("m", 0, 2)}},
		{"a key in both", api.Txn{Reads: []string{"m", "x"}, Writes: []string{"m"}}, []api.Mark{mark("m", 0, 2), mark("x", 1, 1)}},
		{"an empty key, and a long one", reading(long, ""), []api.Mark{mark("", 0, 0), mark(long, 0, 0)}},
		{"a key of Ops alone", api.Txn{Kind: api.TxRun, Ops: []api.Op{{Kind: api.OpRead, Key: "m"}}}, nil},
	} {
		if got := Marks(s, c.txn); !slices.Equal(got, c.want) {
			t.Errorf("%s: %v, want %v", c.name, got, c.want)
		}
	}
}

// P10.1: what a store has changes with its homes, not with its values, and from store to store.
func TestMarksFollowTheStore(t *testing.T) {
	s := empty(t, 3)
	asks := func(name string, s *store.Store, want ...api.Mark) {
		t.Helper()
		if got := Marks(s, reading("a", "b")); !slices.Equal(got, want) {
			t.Errorf("%s: %v, want %v", name, got, want)
		}
	}
	asks("at the beginning", s, mark("a", 1, 0), mark("b", 2, 0))
	s.Put("a", []byte("value"))
	asks("with a value", s, mark("a", 1, 0), mark("b", 2, 0))
	moves(t, s, "a", 2)
	asks("after a move", s, mark("a", 2, 1), mark("b", 2, 0))
	s.Delete("a")
	moves(t, s, "b", 2)
	asks("after a move to the same home", s, mark("a", 2, 1), mark("b", 2, 1))
	moves(t, s, "a", 1)
	asks("after a move back", s, mark("a", 1, 2), mark("b", 2, 1))
	asks("of two regions", empty(t, 2), mark("a", 1, 0), mark("b", 0, 0))
	asks("of one region", empty(t, 1), mark("a", 0, 0), mark("b", 0, 0))
	for _, count := range []uint64{1, 1 << 32, math.MaxUint64 - 1, math.MaxUint64} {
		if got := Marks(counted(t, 2, count), reading("k")); !slices.Equal(got, []api.Mark{mark("k", 2, count)}) {
			t.Errorf("Count %d: %v", count, got)
		}
	}
}

// P10.1: the tag, the transaction, and the marks, of any of them.
func TestMake(t *testing.T) {
	s := made(t)
	greatest := tagOf(math.MaxInt, math.MaxUint64, math.MaxUint64, math.MaxInt)
	for _, tag := range []api.Tag{{}, tagOf(4, 300, 5, 1), tagOf(math.MinInt, 0, 0, math.MinInt), greatest} {
		for _, x := range []api.Txn{
			mixed(), reading(), {}, reading("x", "a", "x"),
			{Kind: api.TxMove, Writes: []string{"x"}, To: 2},
			{Kind: math.MinInt, To: math.MaxInt, Ops: []api.Op{{Kind: -1, Key: "\xff", N: math.MinInt64}}},
		} {
			want := api.Order{Tag: tag, Txn: x, Marks: Marks(s, x)}
			if got := Make(s, tag, x); !same(got, want) {
				t.Errorf("%v, want %v", got, want)
			}
		}
	}
	want := api.Order{Tag: tagOf(4, 300, 5, 1), Txn: mixed(), Marks: mixedMarks()}
	if got := Make(s, want.Tag, mixed()); !same(got, want) {
		t.Errorf("%v, want %v", got, want)
	}
}

// P10.1: of a right tag and a right transaction it is a right order.
func TestMakeIsRight(t *testing.T) {
	s := made(t)
	move := api.Txn{Kind: api.TxMove, Writes: []string{"m"}, To: 2}
	for _, x := range []api.Txn{mixed(), reading(), move} {
		if err := order.Check(Make(s, tagOf(8, 1, 1, 2), x), 3); err != api.OK {
			t.Errorf("%v: %v", x, err)
		}
	}
	if err := order.Check(Make(s, tagOf(9, 1, 1, 2), move), 3); err != api.ErrArg {
		t.Errorf("of a tag that isn't right: %v", err)
	}
}

// P10.2: the chapter's example.
func TestLookExample(t *testing.T) {
	r := api.Record{Home: 1, Count: 2}
	for m, want := range map[api.Mark]int{
		mark("", 1, 2): 0,
		mark("", 0, 3): 1,
		mark("", 0, 2): 2,
		mark("", 1, 1): 2,
	} {
		if got := Look(r, m); got != want {
			t.Errorf("%v: %d, want %d", m, got, want)
		}
	}
}

// P10.2: any two homes and counts; keys and values play no part.
func TestLook(t *testing.T) {
	homes := []int{math.MinInt, -1, 0, 1, 2, 3, math.MaxInt}
	counts := []uint64{0, 1, 2, 1 << 63, math.MaxUint64 - 1, math.MaxUint64}
	var marks []api.Mark
	for _, home := range homes {
		for _, count := range counts {
			marks = append(marks, mark("", home, count))
		}
	}
	for _, at := range marks {
		for _, m := range marks {
			want := api.Gone
			if m == at {
				want = api.Now
			} else if m.Count > at.Count {
				want = api.Later
			}
			for _, key := range []string{"", "a", "\xff"} {
				m.Key = key
				bare := api.Record{Home: at.Home, Count: at.Count}
				valued := api.Record{Has: true, Value: []byte("a"), Home: at.Home, Count: at.Count}
				if a, b := Look(bare, m), Look(valued, m); a != want || b != want {
					t.Fatalf("%v of %v: %d, with a value %d, want %d", m, at, a, b, want)
				}
			}
		}
	}
}

// P10.3: one mark that isn't Now is enough, wherever it stands.
func TestFits(t *testing.T) {
	s := made(t)
	for _, c := range []struct {
		name  string
		order api.Order
		want  bool
	}{
		{"all as they are", marked(mixedMarks()...), true},
		{"no marks", api.Order{Txn: mixed()}, true},
		{"empty marks", marked([]api.Mark{}...), true},
		{"a key as at the beginning", marked(mark("a", 1, 0)), true},
		{"a key that moved", marked(mark("m", 0, 2)), true},
		{"a later one", marked(mark("m", 0, 3)), false},
		{"a later one of another home", marked(mark("m", 1, 3)), false},
		{"one of an elder count", marked(mark("m", 2, 1)), false},
		{"one of an elder count and the same home", marked(mark("m", 0, 1)), false},
		{"one of another home", marked(mark("m", 1, 2)), false},
		{"a home that there isn't", marked(mark("a", -1, 0)), false},
		{"a home far above", marked(mark("a", math.MaxInt, 0)), false},
		{"the last count", marked(mark("a", 1, math.MaxUint64)), false},
		{"one of another key", marked(mark("b", 1, 0)), false},
		{"of an empty key", marked(mark("", 0, 0)), true},
		{"marks that fall, and some twice", marked(mark("x", 1, 1), mark("a", 1, 0), mark("x", 1, 1)), true},
		{"a key twice, and once it doesn't fit", marked(mark("x", 1, 1), mark("x", 1, 0)), false},
		{"keys that its transaction hasn't", api.Order{Txn: reading("q"), Marks: mixedMarks()}, true},
	} {
		if got := Fits(s, c.order); got != c.want {
			t.Errorf("%s: %v, want %v", c.name, got, c.want)
		}
	}
	for i := range mixedMarks() {
		for _, wrong := range []api.Mark{mark("", 2, 3), mark("", 1, 9), mark("", -1, 0)} {
			marks := mixedMarks()
			wrong.Key = marks[i].Key
			marks[i] = wrong
			if Fits(s, marked(marks...)) {
				t.Errorf("%v fit", marks)
			}
		}
	}
}

// P10.3: an order fits the store that it was made of, until one of its keys gets another home.
func TestFitsUntilAMove(t *testing.T) {
	for _, key := range []string{"a", "b", "c", "m", "x", "other"} {
		for home := range 3 {
			s := made(t)
			o := Make(s, tagOf(0, 1, 1, 0), mixed())
			s.Put("a", []byte("value"))
			s.Delete("b")
			if !Fits(s, o) {
				t.Errorf("%v doesn't fit the store that it was made of", o)
			}
			moves(t, s, key, home)
			if got := Fits(s, o); got != (key == "other") {
				t.Errorf("behind a move of %s to %d: %v", key, home, got)
			}
			if !Fits(s, Make(s, tagOf(0, 1, 1, 1), mixed())) {
				t.Errorf("behind a move of %s to %d the next try doesn't fit", key, home)
			}
		}
	}
}
