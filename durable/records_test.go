package durable

import (
	"math"
	"slices"
	"testing"

	"argosy/api"
	"argosy/disk"
)

// P22.3: the records, byte by byte, in the logs of their groups.
func TestRecords(t *testing.T) {
	d, k := formatted(t)
	promises(t, k, 1, 5, 0)
	takes(t, k, 1, vote(2, 5, ""), vote(63, 300, "value"))
	promises(t, k, 3, math.MaxUint64, 0)
	takes(t, k, 3, vote(0, math.MaxUint64, "\xff\x00"))
	promises(t, k, 1, 301, 64)
	want := []string{
		"g10", framed(t, "\x01\x05", "\x02\x02\x05\x00", "\x02\x3f\xac\x02\x05value", "\x01\xad\x02"),
		"g30", framed(t, "\x01"+most, "\x02\x00"+most+"\x02\xff\x00"),
		"life", packed("\x01\x01"),
	}
	stands(t, d, want...)
	stands(t, d.Crash(nil), want...)
}

// P22.2, P22.3: records as they are written are read again, of all groups, each for itself.
func TestRecordsAreRead(t *testing.T) {
	for group, digit := range []string{"0", "1", "2", "3"} {
		other := (group + 1) % 4
		d := newDisk(t,
			"g"+digit+"0", framed(t, "\x01\x05", "\x02\x02\x05\x01a", "\x01\x05", "\x02\x02\x05\x01b", "\x02\x3f\x06\x00"),
			"g"+digit+"1", framed(t, "\x02\x00\x06\x01c", "\x01"+most, "\x02\x01"+most+"\x01d"),
			"life", packed("\x00\x01"))
		d.Limit(3)
		k := opened(t, d, other, group)
		has(t, k, group, math.MaxUint64, vote(0, 6, "c"), vote(1, math.MaxUint64, "d"), vote(2, 5, "b"), vote(63, 6, ""))
		has(t, k, other, 0)
	}
}

// P22.2: records of values that are longer than those that Accept takes are records, too.
func TestLongRecord(t *testing.T) {
	record := "\x02\x00\x05\xfa\x1f" + long(4090)
	d := newDisk(t, "g00", framed(t, record), "life", packed("\x00\x01"))
	has(t, opened(t, d, 0), 0, 5, vote(0, 5, long(4090)))
}

// wrong are records that nobody writes.
var wrong = []string{
	"", "\x00", "\x00\x05", "\x03", "\x03\x05", "\xff\x05", "text",
	"\x01", "\x01\x80", "\x01\x85\x00", "\x01\x05\x00", "\x01\x05\x01\x06", "\x01\x80\x80\x80\x80\x80\x80\x80\x80\x80\x02",
	"\x02", "\x02\x00", "\x02\x00\x05", "\x02\x00\x05\x01", "\x02\x00\x05\x02v", "\x02\x00\x05\x01vv", "\x02\x00\x05\x00\x00",
	"\x02\x80\x00\x05\x01v", "\x02\x00\x85\x00\x01v", "\x02\x00\x05\x81\x00v", "\x02\x80", "\x02\x00\x80", "\x02\x00\x05\x80",
	"\x02\x80\x80\x80\x80\x80\x80\x80\x80\x80\x02\x05\x01v", "\x02\x00\x80\x80\x80\x80\x80\x80\x80\x80\x80\x02\x01v",
	"\x02\x00\x05" + most + "v",
}

// P22.2: ErrForm for bytes that aren't a record, wherever they stand.
func TestWrongRecords(t *testing.T) {
	for _, record := range wrong {
		for _, files := range [][]string{
			{"g20", framed(t, record)},
			{"g20", framed(t, "\x01\x01", record)},
			{"g20", framed(t, "\x01\x01", record, "\x01\x06")},
			{"g20", framed(t, "\x01\x01"), "g21", framed(t, "\x02\x00\x01\x00", record)},
		} {
			files = append(files, "life", packed("\x00\x01"))
			d := newDisk(t, files...)
			refused(t, d, []int{2}, 0, api.ErrForm)
			files[len(files)-1] = packed("\x01\x01")
			stands(t, d, files...)
			if k := opened(t, d, 1); k.Epoch() != 2 {
				t.Errorf("Epoch: %d", k.Epoch())
			}
		}
	}
}

// P22.2: ErrForm for records to which a voter says false: below what was promised, or no place.
func TestRefusedRecords(t *testing.T) {
	const great = "\x80\x80\x80\x80\x80\x80\x80\x80\x80\x01" // 2^63
	for _, c := range []struct {
		records []string
		want    api.Errno
	}{
		{[]string{"\x01\x05", "\x01\x04"}, api.ErrForm},
		{[]string{"\x01\x05", "\x01\x00"}, api.ErrForm},
		{[]string{"\x02\x00\x05\x00", "\x01\x04"}, api.ErrForm},
		{[]string{"\x01\x05", "\x02\x00\x04\x00"}, api.ErrForm},
		{[]string{"\x02\x00\x05\x00", "\x02\x01\x04\x00"}, api.ErrForm},
		{[]string{"\x02\x40\x05\x00"}, api.ErrForm},
		{[]string{"\x02" + most + "\x05\x00"}, api.ErrForm},
		{[]string{"\x02" + great + "\x05\x00"}, api.ErrForm},
		{[]string{"\x02\x80\x80\x80\x80\x10\x05\x00"}, api.ErrForm}, // 2^32
		{[]string{"\x02\x40\x00\x00", "\x01\x05"}, api.ErrForm},
		{[]string{"\x01\x05", "\x01\x05"}, api.OK},
		{[]string{"\x01\x05", "\x02\x3f\x05\x00"}, api.OK},
		{[]string{"\x02\x00\x05\x00", "\x01\x05", "\x02\x00\x05\x00"}, api.OK},
		{[]string{"\x01\x00", "\x02\x00\x00\x00"}, api.OK},
	} {
		k, err := Open(newDisk(t, "g30", framed(t, c.records...), "life", packed("\x00\x01")), []int{3}, 0)
		if err != c.want || (k == nil) != (err != api.OK) {
			t.Errorf("%q: %v, want %v", c.records, err, c.want)
		}
	}
}

// P22.2: a log's torn end is no record, and is cut off.
func TestTornLog(t *testing.T) {
	whole := framed(t, "\x01\x05")
	next := framed(t, "\x02\x00\x05\x01v")
	for size := range len(next) {
		d := newDisk(t, "g00", whole+next[:size], "life", packed("\x00\x01"))
		k := opened(t, d, 0)
		has(t, k, 0, 5)
		takes(t, k, 0, vote(1, 6, "more"))
		stands(t, d, "g00", whole+framed(t, "\x02\x01\x06\x04more"), "life", packed("\x01\x01"))
		has(t, opened(t, d.Crash(nil), 0), 0, 6, vote(1, 6, "more"))
	}
}

// P22.2: a log's part has 40960 bytes, and there are ten.
func TestLogSize(t *testing.T) {
	for _, c := range []struct {
		size  int
		names []string
	}{
		{839, []string{"g10", "life"}},
		{840, []string{"g10", "g11", "life"}},
	} {
		d, k := formatted(t)
		for range 10 {
			takes(t, k, 1, vote(0, 1, long(4000)))
		}
		if data, _ := allKept(d).Read("g10"); len(data) != 40110 {
			t.Fatalf("%d bytes", len(data))
		}
		takes(t, k, 1, vote(1, 1, long(c.size)))
		if got := d.Names(); !slices.Equal(got, c.names) {
			t.Errorf("%d: %q", c.size, got)
		}
	}
}

// fill lets a group's log be full, up to a number of bytes.
func fill(t *testing.T, k *Keeper, group int) {
	t.Helper()
	for i := range 100 {
		takes(t, k, group, vote(i%60, 1, long(4000)))
	}
	takes(t, k, group, vote(60, 1, long(839)))
	if k.groups[group].log.Parts() != 10 {
		t.Fatalf("%d parts", k.groups[group].log.Parts())
	}
}

// P22.4, P22.5: a log that is full: ErrFull, and nothing has changed.
func TestFullLog(t *testing.T) {
	d, k := formatted(t)
	fill(t, k, 1)
	check := func(k *Keeper) {
		t.Helper()
		for range 2 {
			denies(t, k, 1, 2, api.ErrFull)
			leaves(t, k, 1, vote(61, 1, ""), api.ErrFull)
			leaves(t, k, 1, vote(61, 2, long(4000)), api.ErrFull)
			leaves(t, k, 1, vote(61, 2, long(4001)), api.ErrArg)
			leaves(t, k, 1, vote(64, 2, ""), api.OK)
			leaves(t, k, 1, vote(61, 0, ""), api.OK)
			promises(t, k, 1, 1, 60, vote(60, 1, long(839)))
			if votes, _, _ := k.Promise(1, 1, 0); len(votes) != 61 {
				t.Fatalf("%d votes", len(votes))
			}
		}
	}
	check(k)
	takes(t, k, 3, vote(0, 7, "others aren't full"))
	k = opened(t, d.Crash(nil), 3, 1)
	check(k)
	has(t, k, 3, 7, vote(0, 7, "others aren't full"))
}

// P22.4, P22.5: a disk that is full: ErrFull, and nothing has changed.
func TestFullDisk(t *testing.T) {
	d, err := disk.New(100)
	wants(t, "disk.New", err, api.OK)
	wants(t, "Format", Format(d), api.OK)
	k := opened(t, d, 1, 3)
	takes(t, k, 1, vote(0, 1, long(74)))
	for range 2 {
		denies(t, k, 1, 2, api.ErrFull)
		leaves(t, k, 1, vote(0, 1, ""), api.ErrFull)
		leaves(t, k, 3, vote(0, 1, ""), api.ErrFull)
		denies(t, k, 3, 1, api.ErrFull)
		has(t, k, 1, 1, vote(0, 1, long(74)))
		has(t, k, 3, 0)
	}
	wants(t, "Save", k.Save([]byte("state")), api.ErrFull)
	fails(t, k, api.ErrNoFile)
}
