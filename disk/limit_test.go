package disk

import (
	"math"
	"testing"

	"argosy/api"
)

// change is one of the calls that are changes, to a file a of 3 bytes, of which 2 last.
type change struct {
	name  string
	do    func(*Disk) api.Errno
	after string // a's bytes, if the power ends within it
}

func changes() []change {
	return []change{
		{"Append", func(d *Disk) api.Errno { return d.Append("a", []byte("45")) }, "12345"},
		{"Append of nothing", func(d *Disk) api.Errno { return d.Append("a", nil) }, "123"},
		{"Sync", func(d *Disk) api.Errno { return d.Sync("a") }, "123"},
		{"Rename", func(d *Disk) api.Errno { return d.Rename("a", "b") }, "123"},
		{"Rename to itself", func(d *Disk) api.Errno { return d.Rename("a", "a") }, "123"},
		{"Remove", func(d *Disk) api.Errno { return d.Remove("a") }, "123"},
		{"Cut", func(d *Disk) api.Errno { return d.Cut("a", 1) }, "123"},
	}
}

// P3.5: the change within which the power ends, and all behind it.
func TestLimit(t *testing.T) {
	for _, c := range changes() {
		for limit := range 4 {
			d := lasting(t, "12", "3")
			d.Limit(limit)
			for range limit {
				wants(t, "ahead of the end", d.Append("a", nil), api.OK)
			}
			wants(t, c.name, c.do(d), api.ErrDown)
			for _, behind := range changes() {
				wants(t, behind.name+" behind the end", behind.do(d), api.ErrDown)
			}
			if got, err := d.Read("a"); len(got) != 0 || err != api.ErrDown {
				t.Errorf("%s: Read: %q, %v", c.name, got, err)
			}
			if names := d.Names(); len(names) != 1 || names[0] != "a" || d.Used() != len(c.after) {
				t.Errorf("%s: %q, %d bytes", c.name, names, d.Used())
			}
			has(t, d.Crash(nil), "a", "12")
			has(t, d.Crash([]int{-1}), "a", c.after)
		}
	}
}

// P3.5: each change counts as one.
func TestLimitCounts(t *testing.T) {
	for _, c := range changes() {
		d := lasting(t, "12", "3")
		d.Limit(1)
		wants(t, c.name, c.do(d), api.OK)
		wants(t, "Append behind "+c.name, d.Append("a", nil), api.ErrDown)
	}
}

// P3.5: within an Append a new file may come.
func TestLimitOfNewFile(t *testing.T) {
	d := lasting(t, "12", "3")
	d.Limit(0)
	wants(t, "Append", d.Append("b", []byte("45")), api.ErrDown)
	if names := d.Names(); len(names) != 2 || d.Used() != 5 {
		t.Errorf("%q, %d bytes", names, d.Used())
	}
	has(t, d.Crash(nil), "a", "12", "b", "")
	has(t, d.Crash([]int{0, 1}), "a", "12", "b", "4")
	has(t, d.Crash([]int{1, 2}), "a", "123", "b", "45")
	wants(t, "Append", d.Append("c", []byte("6")), api.ErrDown)
	has(t, d.Crash([]int{1, 2}), "a", "123", "b", "45")
}

// P3.5: calls that are answered by another error, and those that change nothing, are no changes.
func TestLimitOfNoChanges(t *testing.T) {
	d := lasting(t, "12", "3")
	for _, limit := range []int{1, 0} {
		d.Limit(limit)
		for range 3 {
			wants(t, "Append without a name", d.Append("", nil), api.ErrArg)
			wants(t, "Append of too much", d.Append("a", make([]byte, 101)), api.ErrFull)
			wants(t, "Sync of no file", d.Sync("b"), api.ErrNoFile)
			wants(t, "Rename of no file", d.Rename("b", "a"), api.ErrNoFile)
			wants(t, "Rename to no name", d.Rename("a", ""), api.ErrArg)
			wants(t, "Remove of no file", d.Remove("b"), api.ErrNoFile)
			wants(t, "Cut of no file", d.Cut("b", 0), api.ErrNoFile)
			wants(t, "Cut beyond the end", d.Cut("a", 4), api.ErrArg)
			has(t, d, "a", "123")
			has(t, d.Crash(nil), "a", "12")
		}
		if limit == 1 {
			wants(t, "the one that is left", d.Append("a", nil), api.OK)
		}
	}
	wants(t, "the first change", d.Sync("a"), api.ErrDown)
	has(t, d.Crash(nil), "a", "12")
}

// P3.5: a limit counts from its call on, and one below 0 is none, but of a disk that is down.
func TestLimitAgain(t *testing.T) {
	d := lasting(t, "12", "3")
	d.Limit(0)
	d.Limit(2)
	wants(t, "the first of two", d.Append("a", nil), api.OK)
	d.Limit(2)
	for range 2 {
		wants(t, "two more", d.Append("a", nil), api.OK)
	}
	for _, calls := range []int{-1, -2, math.MinInt, math.MaxInt} {
		d.Limit(0)
		d.Limit(calls)
		for range 100 {
			wants(t, "without a limit", d.Append("a", nil), api.OK)
		}
	}
	d.Limit(0)
	wants(t, "at the end", d.Append("a", nil), api.ErrDown)
	for _, calls := range []int{-1, 0, 5, math.MinInt, math.MaxInt} {
		d.Limit(calls)
		wants(t, "still down", d.Append("a", nil), api.ErrDown)
		wants(t, "still down", d.Sync("b"), api.ErrDown)
	}
}
