package durable

import (
	"fmt"
	"math"
	"slices"
	"testing"

	"argosy/api"
	"argosy/disk"
)

// most is the number of a life behind which there is none.
const most = "\xff\xff\xff\xff\xff\xff\xff\xff\xff\x01"

// lessThanMost is the number ahead of it.
const lessThanMost = "\xfe\xff\xff\xff\xff\xff\xff\xff\xff\x01"

// The chapter's examples.
func TestExamples(t *testing.T) {
	d := newDisk(t)
	wants(t, "Format", Format(d), api.OK)
	k, err := Open(d, nil, 0)
	if err != api.OK || k.Epoch() != 1 || !k.Voter() {
		t.Errorf("%v, %v", k, err)
	}
	k, err = Open(newDisk(t), nil, 7)
	if err != api.OK || k.Epoch() != 8 || k.Voter() {
		t.Errorf("%v, %v", k, err)
	}
}

// P22.1: what Format writes, whatever there was.
func TestFormat(t *testing.T) {
	want := packed("\x00\x01")
	for _, c := range [][2][]string{
		{{}, {"life", want}},
		{{"life", packed("\x05\x00")}, {"life", want}},
		{{"life", "torn"}, {"life", want}},
		{{"g00", "torn", "life", packed("\x05\x00"), "life~", "torn", "state", "torn"}, {"g00", "torn", "life", want, "state", "torn"}},
	} {
		d := newDisk(t, c[0]...)
		wants(t, "Format", Format(d), api.OK)
		stands(t, d, c[1]...)
		stands(t, d.Crash(nil), c[1]...)
	}
}

// P22.1: Format's error.
func TestFormatErrors(t *testing.T) {
	for limit, files := range [][]string{
		{"life", packed("\x05\x00"), "life~", "torn"},
		{"life", packed("\x05\x00"), "life~", packed("\x00\x01")},
		{"life", packed("\x05\x00"), "life~", packed("\x00\x01")},
		{"life", packed("\x05\x00"), "life~", packed("\x00\x01")},
		{"life", packed("\x00\x01")},
	} {
		d := newDisk(t, "life", packed("\x05\x00"), "life~", "torn")
		d.Limit(limit)
		want := api.ErrDown
		if limit == 4 {
			want = api.OK
		}
		wants(t, "Format", Format(d), want)
		stands(t, d, files...)
	}
	small, _ := disk.New(len(packed("\x00\x01")) - 1)
	wants(t, "Format", Format(small), api.ErrFull)
	stands(t, small)
	enough, _ := disk.New(len(packed("\x00\x01")))
	wants(t, "Format", Format(enough), api.OK)
}

// P22.2: groups that may be, and others.
func TestGroups(t *testing.T) {
	for _, groups := range [][]int{nil, {}, {0}, {3}, {0, 3}, {3, 0}, {1, 2}} {
		d := newDisk(t)
		k := opened(t, d, groups...)
		if k.Epoch() != 1 || k.Voter() {
			t.Errorf("%v: %d, %v", groups, k.Epoch(), k.Voter())
		}
	}
	for _, groups := range [][]int{
		{0, 1, 2}, {0, 0, 1}, {0, 1, 2, 3}, make([]int, 1000),
		{4}, {-1}, {math.MaxInt}, {math.MinInt}, {0, 4}, {4, 0}, {0, -1}, {-1, 0},
		{0, 0}, {3, 3},
	} {
		d := newDisk(t, "life", "torn")
		refused(t, d, groups, math.MaxUint64, api.ErrArg)
		stands(t, d, "life", "torn")
		d.Limit(0)
		Format(d)
		refused(t, d, groups, 0, api.ErrArg)
	}
}

// P22.2: the life behind the last one and the clock, and whether the node is a voter, by what the file tells.
func TestLife(t *testing.T) {
	for _, c := range []struct {
		life  string
		clock uint64
		epoch uint64
		wrote string
	}{
		{"\x00\x01", 0, 1, "\x01\x01"},
		{"\x00\x00", 0, 1, "\x01\x00"},
		{"\x05\x01", 4, 6, "\x06\x01"},
		{"\x05\x01", 5, 6, "\x06\x01"},
		{"\x05\x01", 6, 7, "\x07\x01"},
		{"\x05\x00", 6, 7, "\x07\x00"},
		{"\x7e\x01", 0, 127, "\x7f\x01"},
		{"\x7f\x01", 0, 128, "\x80\x01\x01"},
		{"\x05\x01", math.MaxUint64 - 1, math.MaxUint64, most + "\x01"},
		{lessThanMost + "\x01", 5, math.MaxUint64, most + "\x01"},
		{lessThanMost + "\x00", math.MaxUint64 - 1, math.MaxUint64, most + "\x00"},
	} {
		d := newDisk(t, "life", packed(c.life))
		k, err := Open(d, []int{2}, c.clock)
		if err != api.OK || k.Epoch() != c.epoch || k.Voter() != (c.wrote[len(c.wrote)-1] == 1) {
			t.Fatalf("Open of %q: %v, %v", c.life, k, err)
		}
		stands(t, d, "life", packed(c.wrote))
		stands(t, d.Crash(nil), "life", packed(c.wrote))
	}
}

// P22.2: a disk without the file life isn't a voter's, in later lives neither, until it is formatted.
func TestWiped(t *testing.T) {
	d := newDisk(t, "g00", framed(t, "\x01\x09"))
	for epoch := uint64(1); epoch < 4; epoch++ {
		k := opened(t, d, 0)
		if k.Epoch() != epoch || k.Voter() || k.Promised(0) != 9 {
			t.Fatalf("%d, %v, %d", k.Epoch(), k.Voter(), k.Promised(0))
		}
		d = d.Crash(nil)
	}
	wants(t, "Format", Format(d), api.OK)
	k := opened(t, d, 0)
	if k.Epoch() != 1 || !k.Voter() || k.Promised(0) != 9 {
		t.Errorf("%d, %v, %d", k.Epoch(), k.Voter(), k.Promised(0))
	}
}

// P22.2: a file life that can't be read, and numbers that ran over; nothing is changed.
func TestLifeErrors(t *testing.T) {
	whole := packed("\x05\x01")
	for _, c := range []struct {
		file  string
		clock uint64
		want  api.Errno
	}{
		{"", 0, api.ErrTorn},
		{"torn", 0, api.ErrTorn},
		{whole[:len(whole)-1], 0, api.ErrTorn},
		{whole + "\x00", 0, api.ErrTorn},
		{packed(""), 0, api.ErrTorn},
		{packed("\x05"), 0, api.ErrTorn},
		{packed("\x80"), 0, api.ErrTorn},
		{packed("\x05\x02"), 0, api.ErrTorn},
		{packed("\x05\xff"), 0, api.ErrTorn},
		{packed("\x05\x01\x00"), 0, api.ErrTorn},
		{packed("\x05\x00\x01"), 0, api.ErrTorn},
		{packed("\x85\x00\x01"), 0, api.ErrTorn},
		{packed("\x80\x80\x80\x80\x80\x80\x80\x80\x80\x02\x01"), 0, api.ErrTorn},
		{packed("\x05\x02"), math.MaxUint64, api.ErrTorn},
		{packed(most + "\x02"), 0, api.ErrTorn},
		{packed(most + "\x01"), 0, api.ErrOver},
		{packed(most + "\x00"), 0, api.ErrOver},
		{packed(most + "\x01"), math.MaxUint64, api.ErrOver},
		{whole, math.MaxUint64, api.ErrOver},
	} {
		files := []string{"g00", "torn", "life", c.file, "life~", "torn"}
		d := newDisk(t, files...)
		refused(t, d, []int{0}, c.clock, c.want)
		stands(t, d, files...)
	}
	refused(t, newDisk(t), nil, math.MaxUint64, api.ErrOver)
	down := newDisk(t, "life", "torn")
	down.Limit(0)
	wants(t, "at the end", down.Append("x", nil), api.ErrDown)
	refused(t, down, []int{0}, math.MaxUint64, api.ErrDown)
}

// P22.2: each change is in its turn, and the disk's error ends the opening; the logs are opened in the groups' order.
func TestOpenErrors(t *testing.T) {
	before, after := packed("\x05\x01"), packed("\x06\x01")
	tornLog := framed(t, "\x01\x01") + "torn"
	cutLog := framed(t, "\x01\x01")
	for limit, files := range [][]string{
		{"g00", tornLog, "g30", tornLog, "life", before, "life~", "torn"},
		{"g00", tornLog, "g30", tornLog, "life", before, "life~", after},
		{"g00", tornLog, "g30", tornLog, "life", before, "life~", after},
		{"g00", tornLog, "g30", tornLog, "life", before, "life~", after},
		{"g00", tornLog, "g30", tornLog, "life", after},
		{"g00", tornLog, "g30", cutLog, "life", after},
		{"g00", cutLog, "g30", cutLog, "life", after},
	} {
		d := newDisk(t, "g00", tornLog, "g30", tornLog, "life", before, "life~", "torn")
		d.Limit(limit)
		if limit < 6 {
			refused(t, d, []int{3, 0}, 0, api.ErrDown)
		} else {
			opened(t, d, 3, 0)
		}
		stands(t, d, files...)
	}
}

// P22.2: the disk's room has to do for the life.
func TestOpenFull(t *testing.T) {
	d, _ := disk.New(20)
	wants(t, "Format", Format(d), api.OK)
	refused(t, d, nil, 0, api.ErrFull)
	stands(t, d, "life", packed("\x00\x01"))
}

// P22.2: a log that can't be read again ends the opening, those of later groups stay as they are; the life has begun.
func TestOpenLogErrors(t *testing.T) {
	wrong, tornLog := framed(t, "\x03"), framed(t, "\x01\x01")+"torn"
	d := newDisk(t, "g10", wrong, "g20", tornLog, "life", packed("\x05\x01"))
	refused(t, d, []int{1, 2}, 0, api.ErrForm)
	stands(t, d, "g10", wrong, "g20", tornLog, "life", packed("\x06\x01"))
	refused(t, d, []int{2, 1}, 0, api.ErrForm)
	stands(t, d, "g10", wrong, "g20", framed(t, "\x01\x01"), "life", packed("\x07\x01"))
	k := opened(t, d, 2)
	has(t, k, 2, 1)
	if k.Epoch() != 8 {
		t.Errorf("Epoch: %d", k.Epoch())
	}
}

// P22.2: a log that isn't torn is opened without a change but the life's.
func TestOpenChanges(t *testing.T) {
	d, k := formatted(t)
	takes(t, k, 1, vote(0, 5, "x"))
	wants(t, "Save", k.Save([]byte("state")), api.OK)
	d.Limit(3)
	k = opened(t, d, 1, 3)
	has(t, k, 1, 5, vote(0, 5, "x"))
	has(t, k, 3, 0)
	loads(t, k, "state")
	denies(t, k, 1, 6, api.ErrDown)
}

// P22.2, P22.7: each life has a greater number, also when its beginning was cut off.
func TestEpochsRise(t *testing.T) {
	for seed := range uint64(100) {
		next := steps(seed)
		d := newDisk(t)
		if next(2) == 0 {
			wants(t, "Format", Format(d), api.OK)
		}
		last := uint64(0)
		for range 30 {
			clock := uint64(next(60))
			d.Limit(next(6))
			if k, err := Open(d, []int{0}, clock); err == api.OK {
				if k.Epoch() <= max(last, clock) {
					t.Fatalf("seed %d: %d behind %d, clock %d", seed, k.Epoch(), last, clock)
				}
				last = k.Epoch()
			}
			d = d.Crash([]int{next(30), next(30), next(30)})
		}
	}
}

// P1: all arguments, whatever they are, on disks that go down.
func TestAnyOpening(t *testing.T) {
	for limit := range 8 {
		for _, groups := range [][]int{nil, {math.MinInt}, {-1, 0}, {0, 3}, {math.MaxInt, 1}, slices.Repeat([]int{2}, 100)} {
			for _, clock := range []uint64{0, 1, 1 << 63, math.MaxUint64} {
				d := newDisk(t, "g00", "torn", "g02", "torn", "g31", framed(t, "\x02"), "life~", "torn")
				d.Limit(limit)
				for range 3 {
					Format(d)
					k, err := Open(d, groups, clock)
					if (k == nil) != (err != api.OK) {
						t.Fatal(fmt.Sprint(groups, clock, k, err))
					}
				}
			}
		}
	}
}
