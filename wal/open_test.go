package wal

import (
	"math"
	"slices"
	"strings"
	"testing"

	"argosy/api"
	"argosy/disk"
)

// P4.1: names and sizes that a log may have, and others, also of a disk that is down.
func TestOpenArguments(t *testing.T) {
	down := newDisk(t)
	down.Limit(0)
	wants(t, "at the end", down.Append("y", nil), api.ErrDown)
	eight := strings.Repeat("n", 8)
	for _, c := range []struct {
		name string
		size int
		want api.Errno
	}{
		{"", 100, api.ErrArg},
		{eight + "n", 100, api.ErrArg},
		{strings.Repeat("n", 1000), 100, api.ErrArg},
		{"", 15, api.ErrArg},
		{"x", 15, api.ErrArg},
		{"x", 0, api.ErrArg},
		{"x", -1, api.ErrArg},
		{"x", math.MinInt, api.ErrArg},
		{"x", 65537, api.ErrArg},
		{"x", math.MaxInt, api.ErrArg},
		{"x", 16, api.OK},
		{"x", 65536, api.OK},
		{eight, 100, api.OK},
		{"\xff", 100, api.OK},
		{"\x00", 100, api.OK},
		{"0", 100, api.OK},
	} {
		l, err := Open(newDisk(t), c.name, c.size)
		if err != c.want || (l != nil) != (err == api.OK) {
			t.Errorf("Open(%q, %d): %v, %v, want %v", c.name, c.size, l, err, c.want)
		}
		if c.want == api.OK {
			wants(t, "Append", l.Append([]byte("1")), api.OK)
		}
		want := api.ErrDown
		if c.want != api.OK {
			want = c.want
		}
		if l, err := Open(down, c.name, c.size); l != nil || err != want {
			t.Errorf("down: Open(%q, %d): %v, %v, want %v", c.name, c.size, l, err, want)
		}
	}
}

// P4.1: without files there are no records, and opening makes none.
func TestOpenOfNothing(t *testing.T) {
	d := newDisk(t)
	d.Limit(0)
	l := opened(t, d, 16)
	has(t, l)
	if l.Parts() != 0 || len(d.Names()) != 0 {
		t.Errorf("%d parts, %q", l.Parts(), d.Names())
	}
}

// P4.1: records by part and place; what is well is opened without a change, and nobody else's files are read.
func TestOpenReads(t *testing.T) {
	d := lay(t, newDisk(t),
		"x0", framed(t, "a", "", "b"),
		"x1", framed(t, "c"),
		"x2", "",
		"x3", framed(t, strings.Repeat("d", 4096), "e"),
		"x", framed(t, "no"), "x:", "no", "x/", "no", "x10", "no", "xx4", "no", "y4", "no", "4", "no", "x\x04", "no")
	names := d.Names()
	d.Limit(0)
	l := opened(t, d, 16)
	has(t, l, "a", "", "b", "c", strings.Repeat("d", 4096), "e")
	if l.Parts() != 4 || !slices.Equal(d.Names(), names) {
		t.Errorf("%d parts, %q", l.Parts(), d.Names())
	}
}

// P4.1: all ten parts are read, and none has an eleventh's name.
func TestOpenTenParts(t *testing.T) {
	d := newDisk(t)
	var want []string
	for _, digit := range "9876543210" {
		lay(t, d, "x"+string(digit), framed(t, "r"+string(digit)))
		want = append([]string{"r" + string(digit)}, want...)
	}
	l := opened(t, d, 16)
	has(t, l, want...)
	if l.Parts() != 10 {
		t.Errorf("%d parts", l.Parts())
	}
	wants(t, "Append", l.Append(make([]byte, 10)), api.ErrFull)
}

// torn has bytes that aren't a frame, and more behind them that would be frames.
func torn(t *testing.T) []string {
	f := framed(t, "torn")
	other := []byte(f)
	other[7] ^= 1
	return []string{f[:1], f[:5], f[:6], f[:9], string(other), string(other) + f, "\xff\xff\x00\x00\x00\x00" + f, "\x00\x00\x00\x00\x00\x00" + f, "\x10\x01\x00\x00\x00\x00"}
}

// P4.1: where bytes aren't a frame the log ends, whatever stands behind them; other files stay.
func TestOpenCuts(t *testing.T) {
	for _, bytes := range torn(t) {
		for _, good := range [][]string{nil, {"a"}, {"a", "", "b"}} {
			whole := framed(t, good...)
			d := lay(t, newDisk(t), "x0", whole+bytes)
			l := opened(t, d, 100)
			has(t, l, good...)
			stands(t, d, "x0", whole)

			d = lay(t, newDisk(t), "x0", framed(t, "0"), "x1", whole+bytes, "x2", framed(t, "2"), "x3", "junk", "x5", framed(t, "5"), "x9", "", "x", "no", "y2", "no")
			l = opened(t, d, 100)
			has(t, l, append([]string{"0"}, good...)...)
			stands(t, d, "x", "no", "x0", framed(t, "0"), "x1", whole, "y2", "no")
			if l.Parts() != 2 {
				t.Errorf("%d parts", l.Parts())
			}
			put(t, l, "more")
			stands(t, d, "x", "no", "x0", framed(t, "0"), "x1", whole+framed(t, "more"), "y2", "no")
		}
	}
}

// P4.1: only the first torn part is cut, and what it loses is lost for good.
func TestOpenCutsLast(t *testing.T) {
	d := lay(t, newDisk(t), "x0", framed(t, "a", "b")+"junk")
	opened(t, d, 100)
	has(t, opened(t, d.Crash(nil), 100), "a", "b")
	stands(t, d.Crash(nil), "x0", framed(t, "a", "b"))
}

// P4.1: parts behind a gap are removed, also when nothing is torn, and when there is no part 0.
func TestOpenGap(t *testing.T) {
	d := lay(t, newDisk(t), "x0", framed(t, "a"), "x1", framed(t, "b"), "x3", framed(t, "d"), "x4", "junk", "x9", framed(t, "z"))
	l := opened(t, d, 16)
	has(t, l, "a", "b")
	stands(t, d, "x0", framed(t, "a"), "x1", framed(t, "b"))

	d = lay(t, newDisk(t), "x1", framed(t, "b"), "x2", framed(t, "c"), "x", "no")
	l = opened(t, d, 16)
	has(t, l)
	stands(t, d, "x", "no")
	put(t, l, "a")
	stands(t, d, "x", "no", "x0", framed(t, "a"))
}

// P4.1: the disk's error ends the opening; the torn part is cut, and then parts are removed from the last one down.
func TestOpenErrors(t *testing.T) {
	whole, tornAway := framed(t, "a"), framed(t, "b")+"junk"
	d := lay(t, newDisk(t), "x0", whole, "x1", tornAway, "x2", whole, "x3", whole, "x7", whole)
	for limit, want := range [][]string{
		{"x0", whole, "x1", tornAway, "x2", whole, "x3", whole, "x7", whole},
		{"x0", whole, "x1", framed(t, "b"), "x2", whole, "x3", whole, "x7", whole},
		{"x0", whole, "x1", framed(t, "b"), "x2", whole, "x3", whole},
		{"x0", whole, "x1", framed(t, "b"), "x2", whole},
		{"x0", whole, "x1", framed(t, "b")},
	} {
		each := d.Crash(nil)
		each.Limit(limit)
		l, err := Open(each, "x", 100)
		if limit < 4 && (l != nil || err != api.ErrDown) || limit == 4 && err != api.OK {
			t.Errorf("%d changes: %v, %v", limit, l, err)
		}
		stands(t, all(each), want...)
	}
	gap := lay(t, newDisk(t), "x0", whole, "x2", whole, "x5", whole)
	gap.Limit(1)
	if l, err := Open(gap, "x", 100); l != nil || err != api.ErrDown {
		t.Errorf("%v, %v", l, err)
	}
	stands(t, all(gap), "x0", whole, "x2", whole)
}

// P4.1: the last part is the last one that is there, also without bytes, or with more than the size.
func TestOpenLastPart(t *testing.T) {
	for _, c := range []struct {
		last, want string
	}{
		{"", "x1"},
		{framed(t, "b"), "x1"},
		{framed(t, "1234"), "x2"},
		{framed(t, strings.Repeat("b", 100)), "x2"},
		{"junk", "x1"},
	} {
		d := lay(t, newDisk(t), "x0", framed(t, "a"), "x1", c.last)
		l := opened(t, d, 16)
		before := used(t, d, c.want)
		put(t, l, "c")
		if got := used(t, d, c.want); got != before+7 {
			t.Errorf("behind %q: %s has %d bytes", c.last, c.want, got)
		}
	}
}

// used tells how many bytes a file has.
func used(t *testing.T, d *disk.Disk, name string) int {
	t.Helper()
	data, _ := d.Read(name)
	return len(data)
}
