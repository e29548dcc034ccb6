package wal

import (
	"math"
	"slices"
	"strings"
	"testing"

	"argosy/api"
	"argosy/disk"
)

// The chapter's example.
func TestExample(t *testing.T) {
	d := newDisk(t)
	l := opened(t, d, 100)
	put(t, l, "one")
	wants(t, "Sync", l.Sync(), api.OK)
	put(t, l, "two")
	for keep := range 10 {
		want := []string{"one"}
		if keep == 9 {
			want = append(want, "two")
		}
		has(t, opened(t, d.Crash([]int{keep}), 100), want...)
	}
}

// life is what was asked of a log since its disk's last crash, and what it told.
type life struct {
	before []string // records that were opened with
	asked  []string // records that were to be appended since, the last one perhaps with an error
	synced int      // how many of all of them a Sync answered OK behind
}

// check fails, unless records are those that were synced, and some of the others from their beginning on.
func (x *life) check(t *testing.T, got []string) {
	t.Helper()
	all := slices.Concat(x.before, x.asked)
	if len(got) < x.synced || len(got) > len(all) || !slices.Equal(got, all[:len(got)]) {
		t.Fatalf("Records: %q, of %q, of which %d last", got, all, x.synced)
	}
}

// do asks a log for some records, with a Sync here and there, until the power goes.
func (x *life) do(t *testing.T, l *Log, next func(below int) int) {
	t.Helper()
	for i := range 12 {
		record := strings.Repeat(string('a'+rune(i)), next(30))
		x.asked = append(x.asked, record)
		put := slices.Concat(x.before, x.asked)
		err := l.Append([]byte(record))
		if err != api.OK {
			if got := texts(l); !slices.Equal(got, put[:len(put)-1]) {
				t.Fatalf("Records behind %v: %q, want %q", err, got, put[:len(put)-1])
			}
			if err == api.ErrFull {
				x.asked = x.asked[:len(x.asked)-1]
			}
			return
		}
		if got := texts(l); !slices.Equal(got, put) {
			t.Fatalf("Records: %q, want %q", got, put)
		}
		if next(3) == 0 && l.Sync() == api.OK {
			x.synced = len(put)
		}
	}
}

// keeps gives some numbers, for as many files as a log may have.
func keeps(next func(below int) int) []int {
	var all []int
	for range 12 {
		all = append(all, next(80))
	}
	return all
}

// P4.4: the power goes at each change, and again within the opening, over several lives.
func TestPower(t *testing.T) {
	for limit := range 30 {
		for seed := range 40 {
			next := steps(uint64(seed))
			d := newDisk(t)
			var x life
			for range 4 {
				d.Limit(limit)
				if l, err := Open(d, "x", 60); err == api.OK {
					x.check(t, texts(l))
					x = life{before: texts(l), synced: len(l.Records())}
					x.do(t, l, next)
				} else {
					wants(t, "Open", err, api.ErrDown)
				}
				d = d.Crash(keeps(next))
			}
			x.check(t, texts(opened(t, d, 60)))
		}
	}
}

// P4.4: each number of bytes that may be kept, of a part that isn't the first one.
func TestPowerKeeps(t *testing.T) {
	records := []string{"1234567890", "ab", "", "cde", strings.Repeat("f", 40)}
	for limit := range 12 {
		for keep := range 100 {
			d := newDisk(t)
			l := opened(t, d, 30)
			d.Limit(limit)
			var x life
			for i, r := range records {
				x.asked = append(x.asked, r)
				if l.Append([]byte(r)) != api.OK {
					break
				}
				if i == 1 && l.Sync() == api.OK {
					x.synced = 2
				}
			}
			for _, keeps := range [][]int{{keep}, {0, keep}, {keep, keep, keep}, {0, 0, keep}} {
				after := d.Crash(keeps)
				again := opened(t, after, 30)
				x.check(t, texts(again))
				want := append(texts(again), "more")
				put(t, again, "more")
				wants(t, "Sync", again.Sync(), api.OK)
				has(t, opened(t, after.Crash(nil), 30), want...)
			}
		}
	}
}

// told gives all that a log tells over a row of steps, and its disk at the end.
func told(t *testing.T, seed uint64) ([]string, *disk.Disk) {
	t.Helper()
	next := steps(seed)
	d := newDisk(t)
	l := opened(t, d, 40)
	var all []string
	for range 60 {
		err := api.OK
		switch next(8) {
		case 0:
			err = l.Sync()
		case 1:
			d.Limit(next(20))
		case 2:
			d = d.Crash(keeps(next))
			l = opened(t, d, 40)
		default:
			err = l.Append([]byte(strings.Repeat("r", next(20))))
		}
		all = append(all, err.Error(), strings.Repeat("p", l.Parts()))
		all = append(all, texts(l)...)
	}
	return all, d
}

// P2: two runs of the same calls tell the same.
func TestSameAnswers(t *testing.T) {
	for seed := range uint64(50) {
		first, d := told(t, seed)
		second, e := told(t, seed)
		if !slices.Equal(first, second) || !alike(d, e) {
			t.Fatalf("seed %d: two runs differ", seed)
		}
	}
}

// P1, P4.1: whatever bytes the files have: calls end, and what is opened is well behind it.
func TestAnyFiles(t *testing.T) {
	for seed := range uint64(300) {
		next := steps(seed)
		d := newDisk(t)
		for _, digit := range "0123456789" {
			if next(4) == 0 {
				continue
			}
			data := []byte(framed(t, "a", strings.Repeat("b", next(20)), "c"))
			for range next(3) {
				data[next(len(data))] ^= byte(next(256))
			}
			lay(t, d, "x"+string(digit), string(data[:len(data)-next(2)*next(len(data))]))
		}
		l := opened(t, d, 40)
		d.Limit(0)
		has(t, opened(t, d, 40), texts(l)...)
		d.Limit(next(3))
		l.Append(make([]byte, next(30)))
		l.Sync()
		opened(t, d.Crash(keeps(next)), 40)
	}
}

// P1: all arguments, whatever they are, on a disk that is up and on one that is down.
func TestAnyArguments(t *testing.T) {
	for _, limit := range []int{-1, 0, 1, 2} {
		d := newDisk(t)
		d.Limit(limit)
		for range 3 {
			for _, name := range []string{"", "a", "\xff\xfe", "12345678", strings.Repeat("n", 1000)} {
				for _, size := range []int{math.MinInt, -1, 0, 16, 65536, math.MaxInt} {
					l, err := Open(d, name, size)
					if err != api.OK {
						continue
					}
					for _, n := range []int{0, 1, 4096, 4097, 70000} {
						l.Append(make([]byte, n))
						l.Sync()
						l.Records()
						l.Parts()
					}
				}
			}
		}
	}
}
