package eval

import (
	"math"
	"strings"
	"testing"

	"argosy/api"
	"argosy/store"
)

// P7.2: nothing to do.
func TestRunOfNothing(t *testing.T) {
	gives(t, "no operations", made(t), running(), ok())
	gives(t, "no keys", made(t), api.Txn{Kind: api.TxRun}, ok())
}

// P7.2: what is read.
func TestRead(t *testing.T) {
	s := made(t)
	gives(t, "of values", s, running(read("s"), read("n"), read("m")), ok(out("text"), out(number(40)), out(number(-7))))
	gives(t, "of none", s, running(read("r"), read("a"), read("x")), ok(none(), none(), none()))
	gives(t, "of an empty value", s, running(read("e")), ok(out("")))
	gives(t, "twice", s, running(read("s"), read("s")), ok(out("text"), out("text")))
}

// P7.2: what is written, also where it is what stood there.
func TestWrite(t *testing.T) {
	s := made(t)
	gives(t, "new", s, running(write("a", "new")), ok(), row("a", "new", 1, 0))
	gives(t, "other", s, running(write("n", "new")), ok(), row("n", "new", 2, 0))
	gives(t, "the same", s, running(write("n", number(40))), ok(), row("n", number(40), 2, 0))
	gives(t, "empty", s, running(write("a", "")), ok(), row("a", "", 1, 0))
	gives(t, "of a key that moved", s, running(write("m", "v"), write("x", "w")), ok(), row("m", "v", 2, 2), row("x", "w", 2, 1))
	gives(t, "twice", s, running(write("a", "one"), write("a", "two")), ok(), row("a", "two", 1, 0))
	long := strings.Repeat("v", 32)
	gives(t, "of 32 bytes", s, running(write("a", long), read("a")), ok(out(long)), row("a", long, 1, 0))
}

// P7.2: what is deleted has a row, also if it had no value.
func TestDelete(t *testing.T) {
	s := made(t)
	gives(t, "of a value", s, running(erase("n")), ok(), bare("n", 2, 0))
	gives(t, "of none", s, running(erase("a")), ok(), bare("a", 1, 0))
	gives(t, "of a key that moved", s, running(erase("m"), erase("x")), ok(), bare("m", 2, 2), bare("x", 2, 1))
	gives(t, "behind a write", s, running(write("a", "v"), erase("a"), read("a")), ok(none()), bare("a", 1, 0))
	gives(t, "ahead of a write", s, running(erase("m"), write("m", "v"), read("m")), ok(out("v")), row("m", "v", 2, 2))
}

// P7.2: what is checked must be there, and be that.
func TestCheck(t *testing.T) {
	s := made(t)
	for _, op := range []api.Op{check("s", "text"), check("n", number(40)), check("e", "")} {
		gives(t, "right", s, running(op), ok())
	}
	for _, op := range []api.Op{
		check("s", "tex"), check("s", "text "), check("s", "Text"), check("s", ""), check("e", "x"),
		check("r", ""), check("a", ""), check("x", ""), check("r", "x"), check("n", number(41)),
	} {
		gives(t, "wrong", s, running(op), fails(api.ErrAbort))
	}
	gives(t, "of what was written", s, running(write("a", "v"), check("a", "v")), ok(), row("a", "v", 1, 0))
	gives(t, "of what was there", s, running(write("n", "v"), check("n", number(40))), fails(api.ErrAbort))
	gives(t, "of what was deleted", s, running(erase("e"), check("e", "")), fails(api.ErrAbort))
	gives(t, "of a key that isn't written", s, running(check("n", number(40)), write("a", "v")), ok(), row("a", "v", 1, 0))
}

// P7.2
func TestAbsent(t *testing.T) {
	s := made(t)
	gives(t, "right", s, running(absent("r"), absent("a"), absent("x")), ok())
	for _, key := range []string{"s", "e", "n", "m"} {
		gives(t, "of "+key, s, running(absent(key)), fails(api.ErrAbort))
	}
	gives(t, "of what was written", s, running(write("a", ""), absent("a")), fails(api.ErrAbort))
	gives(t, "of what was deleted", s, running(erase("n"), absent("n")), ok(), bare("n", 2, 0))
}

// P7.2: numbers, and what is none.
func TestAdd(t *testing.T) {
	s := made(t)
	gives(t, "to a number", s, running(add("n", 2)), ok(), row("n", number(42), 2, 0))
	gives(t, "nothing", s, running(add("n", 0)), ok(), row("n", number(40), 2, 0))
	gives(t, "below 0", s, running(add("n", -41), read("n")), ok(out(number(-1))), row("n", number(-1), 2, 0))
	gives(t, "to one that moved", s, running(add("m", 7)), ok(), row("m", number(0), 2, 2))
	gives(t, "to no value", s, running(add("a", -5), add("x", 0)), ok(), row("a", number(-5), 1, 0), row("x", number(0), 2, 1))
	gives(t, "to what was deleted", s, running(erase("n"), add("n", 3)), ok(), row("n", number(3), 2, 0))
	gives(t, "to what was written", s, running(write("a", number(9)), add("a", 3), add("a", 4)), ok(), row("a", number(16), 1, 0))
	gives(t, "to a text of 8 bytes", s, running(write("a", "\x00\x00\x00\x00\x00\x00\x01a"), add("a", 1)), ok(), row("a", number(256+'b'), 1, 0))
	gives(t, "to an empty value", s, running(add("e", 1)), fails(api.ErrAbort))
	for _, size := range []int{0, 1, 7, 9, 16, 32} {
		gives(t, "to no number", s, running(write("a", strings.Repeat("\x00", size)), add("a", 0)), fails(api.ErrAbort))
	}
}

// P7.2: sums at the edges.
func TestAddOver(t *testing.T) {
	const most, least = math.MaxInt64, math.MinInt64
	for _, c := range []struct {
		a, b, sum int64
		fits      bool
	}{
		{most, 0, most, true}, {most, 1, 0, false}, {1, most, 0, false}, {most, most, 0, false},
		{most - 1, 1, most, true}, {1, most - 1, most, true}, {most - 1, 2, 0, false},
		{least, 0, least, true}, {least, -1, 0, false}, {-1, least, 0, false}, {least, least, 0, false},
		{least + 1, -1, least, true}, {-1, least + 1, least, true}, {least + 1, -2, 0, false},
		{most, least, -1, true}, {least, most, -1, true}, {most, -1, most - 1, true}, {least, 1, least + 1, true},
		{0, most, most, true}, {0, least, least, true}, {1 << 62, 1 << 62, 0, false}, {-1 << 62, -1 << 62, least, true},
	} {
		s := made(t)
		s.Put("n", Value(c.a))
		want, rows := fails(api.ErrOver), []api.Row{}
		if c.fits {
			want, rows = ok(), append(rows, row("n", number(c.sum), 2, 0))
		}
		gives(t, "to a number that is there", s, running(add("n", c.b)), want, rows...)
		if c.fits {
			rows[0] = row("a", number(c.sum), 1, 0)
		}
		gives(t, "to one that was added", s, running(add("a", c.a), add("a", c.b)), want, rows...)
	}
}

// P7.2: what is put out stands in the operations' order.
func TestEmit(t *testing.T) {
	s := made(t)
	long := strings.Repeat("v", 32)
	gives(t, "values", s, running(emit("one"), read("s"), emit(""), emit(long), read("r"), emit("one")),
		ok(out("one"), out("text"), out(""), out(long), none(), out("one")))
	s.Put("", []byte("of the empty key"))
	gives(t, "beside an empty key", s, running(emit("v")), ok(out("v")))
}

// P7.2: rows rise, one for each key that was written, whatever was done to it.
func TestRows(t *testing.T) {
	ops := []api.Op{add("x", 1), write("n", "v"), read("s"), add("a", 2), erase("m"), write("b", "w"), add("x", 5), erase("b"), absent("b")}
	gives(t, "rows", made(t), running(ops...), ok(out("text")),
		row("a", number(2), 1, 0), bare("b", 2, 0), bare("m", 2, 2), row("n", "v", 2, 0), row("x", number(6), 2, 1))
}

// P7.2: with an error there are no Outs and no writes; the first one is told.
func TestErrors(t *testing.T) {
	s := made(t)
	ahead := []api.Op{emit("out"), read("s"), write("a", "v"), erase("n")}
	over := []api.Op{add("b", math.MaxInt64), add("b", 1)}
	for _, c := range []struct {
		ops  []api.Op
		want api.Errno
	}{
		{[]api.Op{check("s", "other")}, api.ErrAbort},
		{[]api.Op{absent("a")}, api.ErrAbort},
		{[]api.Op{add("a", 1)}, api.ErrAbort},
		{over, api.ErrOver},
		{[]api.Op{over[0], over[1], absent("s")}, api.ErrOver},
		{[]api.Op{absent("s"), over[0], over[1]}, api.ErrAbort},
	} {
		ops := append(append([]api.Op{}, ahead...), c.ops...)
		gives(t, "an error last", s, running(ops...), fails(c.want))
		gives(t, "an error within", s, running(append(ops, emit("more"), write("b", "w"))...), fails(c.want))
	}
}

// P7.2: the chapter's example.
func TestExample(t *testing.T) {
	s, _ := store.New(3)
	txn := api.Txn{Kind: api.TxRun, Writes: []string{"n"}, Ops: []api.Op{add("n", 5), read("n")}}
	gives(t, "the example", s, txn, ok(out("\x00\x00\x00\x00\x00\x00\x00\x05")), row("n", number(5), 2, 0))
}

// P7.3: a key gets another home, and keeps its value.
func TestMove(t *testing.T) {
	s := made(t)
	for to := range 3 {
		gives(t, "of a number", s, moving("n", to), ok(), row("n", number(40), to, 1))
		gives(t, "of one that moved", s, moving("m", to), ok(), row("m", number(-7), to, 3))
		gives(t, "of an empty value", s, moving("e", to), ok(), row("e", "", to, 1))
		gives(t, "of none", s, moving("a", to), ok(), bare("a", to, 1))
		gives(t, "of none that moved", s, moving("x", to), ok(), bare("x", to, 2))
	}
	single, _ := store.New(1)
	gives(t, "in the only region", single, moving("k", 0), ok(), bare("k", 0, 1))
}

// P7.3: the last Count.
func TestMoveOver(t *testing.T) {
	for _, has := range []bool{false, true} {
		for to := range 2 {
			gives(t, "of the last Count", full(t, "k", has, math.MaxUint64), moving("k", to), fails(api.ErrOver))
		}
	}
	gives(t, "to the last Count", full(t, "k", true, math.MaxUint64-1), moving("k", 0), ok(), row("k", "value", 0, math.MaxUint64))
	gives(t, "to the last Count", full(t, "k", false, math.MaxUint64-1), moving("k", 1), ok(), bare("k", 1, math.MaxUint64))
}

// P7.2, P7.5: records of the last Count are written as others.
func TestWriteOfLastCount(t *testing.T) {
	s := full(t, "k", true, math.MaxUint64)
	txn := api.Txn{Kind: api.TxRun, Writes: []string{"k"}, Ops: []api.Op{write("k", "new")}}
	gives(t, "a write", s, txn, ok(), row("k", "new", 1, math.MaxUint64))
	txn.Ops = []api.Op{erase("k")}
	gives(t, "a delete", s, txn, ok(), bare("k", 1, math.MaxUint64))
}
