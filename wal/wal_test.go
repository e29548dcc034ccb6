package wal

import (
	"strings"
	"testing"

	"argosy/api"
	"argosy/code"
	"argosy/disk"
)

// P4.2: records in frames, one behind the other, in the order of their coming.
func TestAppend(t *testing.T) {
	d := newDisk(t)
	l := opened(t, d, 100)
	put(t, l, "a", "", "b", "a")
	has(t, l, "a", "", "b", "a")
	stands(t, d, "x0", framed(t, "a", "", "b", "a"))
	stands(t, d.Crash(nil), "x0", "")
	wants(t, "nil", l.Append(nil), api.OK)
	has(t, l, "a", "", "b", "a", "")
}

// P4.2: the longest record, and one that is too long, whatever else is wrong.
func TestAppendTooLong(t *testing.T) {
	d := newDisk(t)
	l := opened(t, d, 16)
	for _, n := range []int{4097, 65536} {
		wants(t, "too long", l.Append(make([]byte, n)), api.ErrArg)
	}
	has(t, l)
	if l.Parts() != 0 {
		t.Errorf("%d parts", l.Parts())
	}
	longest := strings.Repeat("r", 4096)
	for range 10 {
		put(t, l, longest)
	}
	wants(t, "too long, and full", l.Append(make([]byte, 4097)), api.ErrArg)
	d.Limit(0)
	wants(t, "at the end", d.Append("y", nil), api.ErrDown)
	wants(t, "too long, and down", l.Append(make([]byte, 4097)), api.ErrArg)
	if n := len(l.Records()); n != 10 {
		t.Errorf("%d records", n)
	}
}

// P4.2: a part is filled up to the size; what would be above it goes into the next one, alone if it has to.
func TestAppendParts(t *testing.T) {
	d := newDisk(t)
	l := opened(t, d, 20)
	put(t, l, "1234", "5678", "9", "0123", "456", "", "7", strings.Repeat("8", 50), "")
	stands(t, d,
		"x0", framed(t, "1234", "5678"),
		"x1", framed(t, "9", "0123"),
		"x2", framed(t, "456", ""),
		"x3", framed(t, "7"),
		"x4", framed(t, strings.Repeat("8", 50)),
		"x5", framed(t, ""))
	has(t, l, "1234", "5678", "9", "0123", "456", "", "7", strings.Repeat("8", 50), "")
	if l.Parts() != 6 {
		t.Errorf("%d parts", l.Parts())
	}
	first := newDisk(t)
	l = opened(t, first, 16)
	put(t, l, strings.Repeat("r", 4096))
	stands(t, first, "x0", framed(t, strings.Repeat("r", 4096)))
}

// P4.2: the greatest size is a part's, and an opened log goes on by the bytes that its last part has.
func TestAppendSizes(t *testing.T) {
	d := newDisk(t)
	l := opened(t, d, 65536)
	for range 16 {
		put(t, l, strings.Repeat("r", 4090))
	}
	if l.Parts() != 1 || d.Used() != 65536 {
		t.Errorf("%d parts, %d bytes", l.Parts(), d.Used())
	}
	put(t, l, "")
	if l.Parts() != 2 {
		t.Errorf("%d parts", l.Parts())
	}
	d = newDisk(t)
	for _, c := range []struct {
		size, parts int
	}{{20, 1}, {20, 1}, {20, 2}, {26, 2}, {39, 2}, {40, 2}, {49, 3}} {
		l := opened(t, d.Crash(nil), c.size)
		d = l.disk
		put(t, l, "1234")
		wants(t, "Sync", l.Sync(), api.OK)
		if got := l.Parts(); got != c.parts {
			t.Errorf("%d records: %d parts, want %d", len(l.Records()), got, c.parts)
		}
	}
}

// full gives a log of ten parts, each of a record of ten bytes.
func full(t *testing.T) (*disk.Disk, *Log) {
	t.Helper()
	d := newDisk(t)
	l := opened(t, d, 20)
	for _, digit := range "0123456789" {
		put(t, l, strings.Repeat(string(digit), 10))
	}
	return d, l
}

// P4.2: behind part 9 there is none: what doesn't go into it is refused ahead of the error of a Sync, and changes nothing.
func TestAppendFull(t *testing.T) {
	d, l := full(t)
	before := texts(l)
	d.Limit(0)
	for range 2 {
		wants(t, "into part 10", l.Append([]byte("r")), api.ErrFull)
	}
	has(t, l, before...)
	if l.Parts() != 10 {
		t.Errorf("%d parts", l.Parts())
	}
	d.Limit(-1)
	stands(t, d.Crash([]int{0, 0, 0, 0, 0, 0, 0, 0, 0, 0}),
		"x0", framed(t, "0000000000"), "x1", framed(t, "1111111111"), "x2", framed(t, "2222222222"), "x3", framed(t, "3333333333"), "x4", framed(t, "4444444444"),
		"x5", framed(t, "5555555555"), "x6", framed(t, "6666666666"), "x7", framed(t, "7777777777"), "x8", framed(t, "8888888888"), "x9", "")
	wants(t, "Sync", l.Sync(), api.OK)
	wants(t, "Append", l.Append(nil), api.ErrFull)

	again := opened(t, d.Crash(nil), 40)
	put(t, again, "more")
	has(t, again, append(before, "more")...)
	if again.Parts() != 10 {
		t.Errorf("%d parts", again.Parts())
	}
}

// P4.2: a part lasts ahead of the next one; with the Sync's error nothing has come to the next one.
func TestAppendSyncs(t *testing.T) {
	d := newDisk(t)
	l := opened(t, d, 20)
	put(t, l, "1234", "5678")
	stands(t, d.Crash(nil), "x0", "")
	put(t, l, "9")
	stands(t, d.Crash(nil), "x0", framed(t, "1234", "5678"), "x1", "")

	d = newDisk(t)
	l = opened(t, d, 20)
	put(t, l, "1234", "5678")
	d.Limit(0)
	wants(t, "Append", l.Append([]byte("9")), api.ErrDown)
	has(t, l, "1234", "5678")
	stands(t, all(d), "x0", framed(t, "1234", "5678"))
	if l.Parts() != 1 {
		t.Errorf("%d parts", l.Parts())
	}
}

// P4.2: the error of the Sync ahead of a next part is handed on, whichever it is, and the record isn't put in.
func TestAppendSyncError(t *testing.T) {
	d := newDisk(t)
	l := opened(t, d, 20)
	put(t, l, "1234", "5678")
	wants(t, "Remove", d.Remove("x0"), api.OK)
	wants(t, "Append", l.Append([]byte("9")), api.ErrNoFile)
	has(t, l, "1234", "5678")
	stands(t, d)
}

// P4.2: with the disk's error of Append no record was put in; the last part is the one that it was.
func TestAppendErrors(t *testing.T) {
	d := newDisk(t)
	l := opened(t, d, 20)
	put(t, l, "1234", "5678")
	room := strings.Repeat("y", api.MaxRoom-d.Used()-6)
	lay(t, d, "y", room)
	for range 3 {
		wants(t, "no room in the next part", l.Append([]byte("9")), api.ErrFull)
	}
	has(t, l, "1234", "5678")
	stands(t, d, "x0", framed(t, "1234", "5678"), "y", room)
	put(t, l, "")
	has(t, l, "1234", "5678", "")
	wants(t, "no room in the last part", l.Append(nil), api.ErrFull)
	has(t, l, "1234", "5678", "")
	wants(t, "Remove", d.Remove("y"), api.OK)
	put(t, l, "90123456", "7")
	stands(t, d, "x0", framed(t, "1234", "5678"), "x1", framed(t, "", "90123456"), "x2", framed(t, "7"))
}

// P4.2, P4.3: within an Append the power ends: the record wasn't put in, but the file may be there.
func TestAppendAtEnd(t *testing.T) {
	d := newDisk(t)
	l := opened(t, d, 20)
	put(t, l, "1234")
	d.Limit(0)
	wants(t, "Append", l.Append([]byte("56")), api.ErrDown)
	has(t, l, "1234")
	wants(t, "Append", l.Append([]byte("56")), api.ErrDown)
	wants(t, "Sync", l.Sync(), api.ErrDown)
	stands(t, all(d), "x0", framed(t, "1234", "56"))

	d = newDisk(t)
	l = opened(t, d, 20)
	put(t, l, "1234", "5678")
	d.Limit(1)
	wants(t, "Append to the next part", l.Append([]byte("9")), api.ErrDown)
	has(t, l, "1234", "5678")
	if l.Parts() != 2 {
		t.Errorf("%d parts", l.Parts())
	}
	wants(t, "Append", l.Append([]byte("9")), api.ErrDown)
	stands(t, all(d), "x0", framed(t, "1234", "5678"), "x1", framed(t, "9"))
	stands(t, d.Crash(nil), "x0", framed(t, "1234", "5678"), "x1", "")
	wants(t, "Sync of what lasts", l.Sync(), api.OK)
}

// P4.2: the first file may be refused, as others may, for there being too many.
func TestAppendManyFiles(t *testing.T) {
	d := newDisk(t)
	for i := range api.MaxFiles {
		lay(t, d, "f"+string('A'+rune(i)), "")
	}
	l := opened(t, d, 20)
	wants(t, "a file more", l.Append(nil), api.ErrFull)
	wants(t, "Sync of nothing", l.Sync(), api.OK)
	if l.Parts() != 0 || len(l.Records()) != 0 {
		t.Errorf("%d parts, %q", l.Parts(), texts(l))
	}
	wants(t, "Remove", d.Remove("fA"), api.OK)
	put(t, l, "1234", "5678")
	wants(t, "a file more", l.Append([]byte("9")), api.ErrFull)
	has(t, l, "1234", "5678")
	stands(t, all(d).Crash(nil), files(t, d)...)
}

// files gives a disk's files: name, bytes, name, bytes ..
func files(t *testing.T, d *disk.Disk) []string {
	t.Helper()
	var all []string
	for _, name := range d.Names() {
		data, err := d.Read(name)
		wants(t, "Read", err, api.OK)
		all = append(all, name, string(data))
	}
	return all
}

// P4.2: Sync makes the records last, and is no change where none was appended.
func TestSync(t *testing.T) {
	d := newDisk(t)
	l := opened(t, d, 100)
	d.Limit(0)
	wants(t, "Sync behind the opening", l.Sync(), api.OK)
	d.Limit(-1)
	put(t, l, "a", "b")
	stands(t, d.Crash(nil), "x0", "")
	wants(t, "Sync", l.Sync(), api.OK)
	stands(t, d.Crash(nil), "x0", framed(t, "a", "b"))
	d.Limit(0)
	for range 3 {
		wants(t, "Sync again", l.Sync(), api.OK)
	}
	d.Limit(2)
	put(t, l, "c")
	wants(t, "Sync, a change", l.Sync(), api.OK)
	wants(t, "Sync again", l.Sync(), api.OK)
	stands(t, d.Crash(nil), "x0", framed(t, "a", "b", "c"))

	d.Limit(1)
	put(t, l, "d")
	for range 2 {
		wants(t, "Sync at the end", l.Sync(), api.ErrDown)
	}
	has(t, l, "a", "b", "c", "d")
	stands(t, d.Crash(nil), "x0", framed(t, "a", "b", "c"))
}

// P4.2: a refused record asks for no Sync.
func TestSyncBehindErrors(t *testing.T) {
	d := newDisk(t)
	l := opened(t, d, 100)
	put(t, l, "a")
	wants(t, "Sync", l.Sync(), api.OK)
	wants(t, "too long", l.Append(make([]byte, 4097)), api.ErrArg)
	d.Limit(0)
	wants(t, "Sync of nothing", l.Sync(), api.OK)
	wants(t, "at the end", l.Append([]byte("b")), api.ErrDown)
	wants(t, "Sync of nothing", l.Sync(), api.OK)
	has(t, opened(t, d.Crash(nil), 100), "a")
	has(t, opened(t, all(d), 100), "a", "b")
}

// P4.2: the Sync ahead of a next part leaves nothing to be synced, the next part's record does.
func TestSyncOfNextPart(t *testing.T) {
	d := newDisk(t)
	l := opened(t, d, 16)
	put(t, l, "1234567890", "a")
	wants(t, "Sync", l.Sync(), api.OK)
	stands(t, d.Crash(nil), "x0", framed(t, "1234567890"), "x1", framed(t, "a"))

	d = newDisk(t)
	l = opened(t, d, 16)
	put(t, l, "1234567890")
	lay(t, d, "y", strings.Repeat("y", api.MaxRoom-d.Used()))
	wants(t, "no room", l.Append(nil), api.ErrFull)
	d.Limit(0)
	wants(t, "Sync of nothing", l.Sync(), api.OK)
	has(t, opened(t, d.Crash(nil), 16), "1234567890")
}

// P4.3: parts are counted as they are on the disk, also on one that is down.
func TestParts(t *testing.T) {
	d := lay(t, newDisk(t), "x", "no", "x:", "no", "x00", "no", "y0", "no", "0", "no")
	l := opened(t, d, 16)
	for want := range 11 {
		if got := l.Parts(); got != want {
			t.Errorf("%d parts, want %d", got, want)
		}
		err := l.Append([]byte("0123456789"))
		if (err == api.OK) != (want < 10) {
			t.Errorf("part %d: %v", want, err)
		}
	}
	d.Limit(0)
	wants(t, "at the end", d.Remove("y0"), api.ErrDown)
	if l.Parts() != 10 || len(l.Records()) != 10 {
		t.Errorf("down: %d parts, %d records", l.Parts(), len(l.Records()))
	}
}

// P4.1, P4.2: two logs on a disk, of which one's name begins with the other's.
func TestTwoLogs(t *testing.T) {
	d := newDisk(t)
	short := opened(t, d, 16)
	long, err := Open(d, "x0", 16)
	wants(t, "Open", err, api.OK)
	for range 4 {
		put(t, short, "short")
		put(t, long, "long")
	}
	has(t, opened(t, d, 16), "short", "short", "short", "short")
	has(t, long, "long", "long", "long", "long")
	if short.Parts() != 4 || long.Parts() != 4 || len(d.Names()) != 8 {
		t.Errorf("%d and %d parts", short.Parts(), long.Parts())
	}
}

// P4.5: what is handed in isn't changed and isn't kept, its spare room neither.
func TestGivenMemory(t *testing.T) {
	d := newDisk(t)
	l := opened(t, d, 100)
	given := roomy("record")
	wants(t, "Append", l.Append(given), api.OK)
	if !isUnchanged(given, "record") {
		t.Errorf("Append changed what it was given: %q", given[:cap(given)])
	}
	clear(given[:cap(given)])
	has(t, l, "record")
	put(t, l, "more")
	has(t, l, "record", "more")
	stands(t, d, "x0", framed(t, "record", "more"))
}

// P4.5: answers are new memory, their spare room too, of what was appended and of what was read.
func TestAnsweredMemory(t *testing.T) {
	d := newDisk(t)
	l := opened(t, d, 100)
	put(t, l, "a", "bc")
	for _, l := range []*Log{l, opened(t, all(d), 100)} {
		first, second := l.Records(), l.Records()
		for _, r := range first {
			clear(r[:cap(r)])
		}
		clear(first[:cap(first)])
		_ = append(second[:1], []byte("no"))
		_ = append(second[0], "no"...)
		has(t, l, "a", "bc")
		if string(second[0]) != "a" {
			t.Errorf("two answers share memory: %q", second)
		}
		put(t, l, "d")
		if len(second) != 2 {
			t.Errorf("an answer was changed behind the call: %q", second)
		}
		has(t, l, "a", "bc", "d")
	}
	frame, _ := code.Frame([]byte("a"))
	if data, _ := d.Read("x0"); string(data[:len(frame)]) != string(frame) {
		t.Errorf("the disk was changed: %q", data)
	}
}
