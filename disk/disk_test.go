package disk

import (
	"math"
	"slices"
	"strings"
	"testing"

	"argosy/api"
)

// made gives a disk without files.
func made(t *testing.T, room int) *Disk {
	t.Helper()
	d, err := New(room)
	if d == nil || err != api.OK {
		t.Fatalf("New(%d): %v", room, err)
	}
	return d
}

// wants fails, unless a call has answered what it should.
func wants(t *testing.T, call string, got, want api.Errno) {
	t.Helper()
	if got != want {
		t.Fatalf("%s: %v, want %v", call, got, want)
	}
}

// has fails, unless a disk, which isn't down, has just these files: name, bytes, name, bytes ..
func has(t *testing.T, d *Disk, files ...string) {
	t.Helper()
	var names []string
	used := 0
	for i := 0; i < len(files); i += 2 {
		names = append(names, files[i])
		used += len(files[i+1])
		got, err := d.Read(files[i])
		if string(got) != files[i+1] || err != api.OK {
			t.Errorf("Read(%q): %q, %v, want %q", files[i], got, err, files[i+1])
		}
	}
	if got := d.Names(); !slices.Equal(got, names) {
		t.Errorf("Names: %q, want %q", got, names)
	}
	if got := d.Used(); got != used {
		t.Errorf("Used: %d, want %d", got, used)
	}
}

// put appends, and fails if that is refused.
func put(t *testing.T, d *Disk, name, data string) {
	t.Helper()
	wants(t, "Append "+name, d.Append(name, []byte(data)), api.OK)
}

// lasting gives a disk of one file a, of whose bytes some last.
func lasting(t *testing.T, last, not string) *Disk {
	t.Helper()
	d := made(t, 100)
	put(t, d, "a", last)
	wants(t, "Sync", d.Sync("a"), api.OK)
	if not != "" {
		put(t, d, "a", not)
	}
	return d
}

// P3.1: the room, and a disk without files.
func TestNew(t *testing.T) {
	for _, room := range []int{math.MinInt, -1, 0, api.MaxRoom + 1, math.MaxInt} {
		if d, err := New(room); d != nil || err != api.ErrArg {
			t.Errorf("New(%d): %v, %v", room, d, err)
		}
	}
	for _, room := range []int{1, 2, api.MaxRoom} {
		d := made(t, room)
		has(t, d)
		wants(t, "one byte too many", d.Append("a", make([]byte, room+1)), api.ErrFull)
		wants(t, "all of the room", d.Append("a", make([]byte, room)), api.OK)
		wants(t, "one byte more", d.Append("b", []byte{1}), api.ErrFull)
		has(t, d, "a", strings.Repeat("\x00", room))
		for range 100 {
			wants(t, "power without a limit", d.Sync("a"), api.OK)
		}
	}
}

// P3.1: names rise byte by byte, whenever their files came.
func TestNames(t *testing.T) {
	d := made(t, 100)
	for _, name := range []string{"b", "\xff", "ab", "a", "B", "a\x00", "é"} {
		put(t, d, name, name)
	}
	has(t, d, "B", "B", "a", "a", "a\x00", "a\x00", "ab", "ab", "b", "b", "é", "é", "\xff", "\xff")
}

// P3.1, P3.2: what a disk tells that is down.
func TestDown(t *testing.T) {
	d := made(t, 10)
	put(t, d, "b", "12")
	put(t, d, "a", "3")
	d.Limit(0)
	wants(t, "the change at the end", d.Remove("a"), api.ErrDown)
	if got, err := d.Read("a"); len(got) != 0 || err != api.ErrDown {
		t.Errorf("Read: %q, %v", got, err)
	}
	if got := d.Names(); !slices.Equal(got, []string{"a", "b"}) || d.Used() != 3 {
		t.Errorf("Names: %q, Used: %d", got, d.Used())
	}
}

// P3.2
func TestRead(t *testing.T) {
	d := made(t, 10)
	put(t, d, "a", "12")
	for _, name := range []string{"", "b", "aa", strings.Repeat("a", 17)} {
		if got, err := d.Read(name); len(got) != 0 || err != api.ErrNoFile {
			t.Errorf("Read(%q): %q, %v", name, got, err)
		}
	}
	has(t, d, "a", "12")
}

// P3.3: bytes stand behind those that were there, and an empty file is one.
func TestAppend(t *testing.T) {
	d := made(t, 40)
	put(t, d, "b", "12")
	put(t, d, "a", "")
	put(t, d, "b", "345")
	put(t, d, "b", "")
	put(t, d, strings.Repeat("n", 16), "6")
	put(t, d, "\x00", "7")
	has(t, d, "\x00", "7", "a", "", "b", "12345", strings.Repeat("n", 16), "6")
	wants(t, "nil", d.Append("nil", nil), api.OK)
	if got, err := d.Read("nil"); len(got) != 0 || err != api.OK {
		t.Errorf("an empty file: %q, %v", got, err)
	}
}

// P3.3: the errors, in their order, behind which nothing is changed.
func TestAppendErrors(t *testing.T) {
	d := made(t, 5)
	put(t, d, "a", "123")
	long := strings.Repeat("n", 17)
	for _, c := range []struct {
		name, data string
		want       api.Errno
	}{
		{"", "", api.ErrArg},
		{"", "123456", api.ErrArg},
		{long, "1", api.ErrArg},
		{long, "123456", api.ErrArg},
		{"b", "456", api.ErrFull},
		{"a", "456", api.ErrFull},
	} {
		wants(t, "Append "+c.name, d.Append(c.name, []byte(c.data)), c.want)
		has(t, d, "a", "123")
	}
	put(t, d, "b", "45")
	put(t, d, "c", "")
	put(t, d, "a", "")
	has(t, d, "a", "123", "b", "45", "c", "")
	d.Limit(0)
	wants(t, "at the end", d.Sync("a"), api.ErrDown)
	wants(t, "down, no name", d.Append("", nil), api.ErrDown)
	wants(t, "down, full", d.Append("a", make([]byte, 9)), api.ErrDown)
	if d.Used() != 5 {
		t.Errorf("Used: %d", d.Used())
	}
}

// P3.3: no more than 32 files, but as much in these as there is room for.
func TestAppendManyFiles(t *testing.T) {
	d := made(t, 100)
	for i := range api.MaxFiles {
		put(t, d, string(rune('A'+i)), "")
	}
	wants(t, "a file more", d.Append("a new one", nil), api.ErrFull)
	wants(t, "no name", d.Append("", nil), api.ErrArg)
	put(t, d, "A", "12")
	if n := len(d.Names()); n != api.MaxFiles {
		t.Errorf("%d files", n)
	}
	wants(t, "Rename over one", d.Rename("A", "B"), api.OK)
	put(t, d, "a new one", "3")
	wants(t, "a file more", d.Append("A", nil), api.ErrFull)
	wants(t, "Remove", d.Remove("C"), api.OK)
	put(t, d, "A", "")
	wants(t, "a file more", d.Append("C", nil), api.ErrFull)
	wants(t, "Rename to a new name", d.Rename("A", "C"), api.OK)
	if n := len(d.Names()); n != api.MaxFiles || d.Used() != 3 {
		t.Errorf("%d files, %d bytes", n, d.Used())
	}
}

// P3.4: Sync
func TestSync(t *testing.T) {
	d := lasting(t, "12", "34")
	put(t, d, "b", "5")
	wants(t, "Sync", d.Sync("a"), api.OK)
	has(t, d, "a", "1234", "b", "5")
	has(t, d.Crash(nil), "a", "1234", "b", "")
	for _, name := range []string{"", "c", strings.Repeat("a", 17)} {
		wants(t, "Sync "+name, d.Sync(name), api.ErrNoFile)
	}
	wants(t, "Sync again", d.Sync("a"), api.OK)
	has(t, d.Crash(nil), "a", "1234", "b", "")
}

// P3.4: Rename lasts at once; what lasts of the file stays so.
func TestRename(t *testing.T) {
	d := lasting(t, "12", "34")
	put(t, d, "b", "567")
	wants(t, "Sync", d.Sync("b"), api.OK)
	wants(t, "Rename to a new name", d.Rename("a", "c"), api.OK)
	has(t, d, "b", "567", "c", "1234")
	has(t, d.Crash(nil), "b", "567", "c", "12")
	wants(t, "Rename to one that is there", d.Rename("c", "b"), api.OK)
	has(t, d, "b", "1234")
	has(t, d.Crash(nil), "b", "12")
	has(t, d.Crash([]int{1}), "b", "123")
	wants(t, "Rename to itself", d.Rename("b", "b"), api.OK)
	has(t, d, "b", "1234")
	has(t, d.Crash(nil), "b", "12")
	wants(t, "Rename of one that is gone", d.Rename("c", "d"), api.ErrNoFile)
	put(t, d, "c", "8")
	has(t, d, "b", "1234", "c", "8")
}

// P3.4: the errors of Rename, in their order.
func TestRenameErrors(t *testing.T) {
	d := lasting(t, "12", "3")
	long := strings.Repeat("n", 17)
	for _, c := range []struct {
		from, to string
		want     api.Errno
	}{
		{"b", "c", api.ErrNoFile},
		{"b", "a", api.ErrNoFile},
		{"b", "b", api.ErrNoFile},
		{"b", "", api.ErrNoFile},
		{"", "", api.ErrNoFile},
		{long, long, api.ErrNoFile},
		{"a", "", api.ErrArg},
		{"a", long, api.ErrArg},
		{"a", long[:16], api.OK},
	} {
		wants(t, "Rename "+c.from+" to "+c.to, d.Rename(c.from, c.to), c.want)
		if c.want != api.OK {
			has(t, d, "a", "123")
			has(t, d.Crash(nil), "a", "12")
		}
	}
	has(t, d, long[:16], "123")
}

// P3.4: Remove lasts at once, also of bytes that last.
func TestRemove(t *testing.T) {
	d := lasting(t, "12", "3")
	put(t, d, "b", "4")
	for _, name := range []string{"", "c", strings.Repeat("a", 17)} {
		wants(t, "Remove "+name, d.Remove(name), api.ErrNoFile)
	}
	wants(t, "Remove", d.Remove("a"), api.OK)
	has(t, d, "b", "4")
	has(t, d.Crash([]int{1, 1, 1}), "b", "4")
	wants(t, "Remove again", d.Remove("a"), api.ErrNoFile)
	put(t, d, "a", "56")
	has(t, d, "a", "56", "b", "4")
	has(t, d.Crash(nil), "a", "", "b", "")
}

// P3.4: Cut lasts at once; what lasts of the first bytes stays so, and no more.
func TestCut(t *testing.T) {
	d := lasting(t, "12", "34")
	wants(t, "Cut", d.Cut("a", 3), api.OK)
	has(t, d, "a", "123")
	has(t, d.Crash(nil), "a", "12")
	has(t, d.Crash([]int{1}), "a", "123")
	wants(t, "Cut of what lasts", d.Cut("a", 1), api.OK)
	has(t, d.Crash(nil), "a", "1")
	put(t, d, "a", "56")
	has(t, d, "a", "156")
	has(t, d.Crash(nil), "a", "1")
	has(t, d.Crash([]int{1}), "a", "15")
	wants(t, "Cut of nothing", d.Cut("a", 3), api.OK)
	has(t, d.Crash(nil), "a", "1")
	wants(t, "Cut of all", d.Cut("a", 0), api.OK)
	has(t, d, "a", "")
	wants(t, "Cut of all again", d.Cut("a", 0), api.OK)
	put(t, d, "a", "7")
	has(t, d, "a", "7")
	has(t, d.Crash(nil), "a", "")
}

// P3.4: the errors of Cut, in their order.
func TestCutErrors(t *testing.T) {
	d := lasting(t, "12", "3")
	for _, n := range []int{math.MinInt, -1, 0, 1, math.MaxInt} {
		wants(t, "Cut of no file", d.Cut("b", n), api.ErrNoFile)
	}
	for _, n := range []int{math.MinInt, -1, 4, math.MaxInt} {
		wants(t, "Cut beyond the ends", d.Cut("a", n), api.ErrArg)
		has(t, d, "a", "123")
		has(t, d.Crash(nil), "a", "12")
	}
}

// P3.3, P3.4: what is gone makes room.
func TestRoomAgain(t *testing.T) {
	d := made(t, 6)
	put(t, d, "a", "123")
	put(t, d, "b", "456")
	wants(t, "full", d.Append("c", []byte{7}), api.ErrFull)
	wants(t, "Cut", d.Cut("a", 1), api.OK)
	put(t, d, "c", "78")
	wants(t, "full", d.Append("c", []byte{9}), api.ErrFull)
	wants(t, "Rename", d.Rename("a", "b"), api.OK)
	put(t, d, "c", "901")
	wants(t, "full", d.Append("c", []byte{2}), api.ErrFull)
	wants(t, "Remove", d.Remove("c"), api.OK)
	put(t, d, "b", "23456")
	has(t, d, "b", "123456")
}

// P3.6: the chapter's example, and remainders of all numbers.
func TestCrash(t *testing.T) {
	d := lasting(t, "123", "45")
	for keep, want := range map[int]string{
		0: "123", 1: "1234", 2: "12345", 3: "123", 4: "1234", 302: "12345",
		-1: "12345", -2: "1234", -3: "123", -4: "12345",
		math.MaxInt: "1234", math.MinInt: "1234", // 2^63 - 1 and -2^63 both leave 1
	} {
		has(t, d.Crash([]int{keep}), "a", want)
	}
	has(t, d.Crash(nil), "a", "123")
	has(t, d.Crash([]int{}), "a", "123")
	has(t, d.Crash([]int{1, 2, 3, 4}), "a", "1234")
	has(t, d, "a", "12345")
	has(t, made(t, 1).Crash([]int{5}))
	has(t, lasting(t, "123", "").Crash([]int{-7}), "a", "123")
}

// P3.6: keeps are told by the files' names, whenever these came.
func TestCrashOfSeveral(t *testing.T) {
	d := made(t, 100)
	for _, name := range []string{"c", "a", "d", "b"} {
		put(t, d, name, name+"12")
	}
	wants(t, "Sync", d.Sync("b"), api.OK)
	put(t, d, "b", "34")
	has(t, d.Crash([]int{1, -1, 2}), "a", "a", "b", "b1234", "c", "c1", "d", "")
	has(t, d.Crash([]int{3, 3, 3, 3}), "a", "a12", "b", "b12", "c", "c12", "d", "d12")
}

// P3.6: what is there behind a crash lasts; the room is as it was, and the power has no limit.
func TestCrashedDisk(t *testing.T) {
	d := made(t, 7)
	put(t, d, "a", "12345")
	d.Limit(0)
	wants(t, "at the end", d.Sync("a"), api.ErrDown)
	after := d.Crash([]int{4})
	has(t, after, "a", "1234")
	has(t, after.Crash([]int{1}), "a", "1234")
	for range 50 {
		wants(t, "Sync", after.Sync("a"), api.OK)
	}
	wants(t, "too much", after.Append("a", make([]byte, 4)), api.ErrFull)
	put(t, after, "a", "567")
	wants(t, "the elder one", d.Append("a", nil), api.ErrDown)
	if d.Used() != 5 {
		t.Errorf("the elder one: %d bytes", d.Used())
	}
}

// P3.6, rule 6: two disks, each by itself, in either direction.
func TestCrashApart(t *testing.T) {
	d := lasting(t, "123", "45")
	after := d.Crash([]int{2})
	put(t, d, "a", "67")
	put(t, after, "a", "xy")
	has(t, d, "a", "1234567")
	has(t, after, "a", "12345xy")
	wants(t, "Cut", after.Cut("a", 1), api.OK)
	put(t, after, "a", "89")
	put(t, after, "b", "0")
	has(t, d, "a", "1234567")
	has(t, after, "a", "189", "b", "0")
	has(t, d.Crash(nil), "a", "123")
	d.Limit(0)
	wants(t, "the elder one", d.Sync("a"), api.ErrDown)
	wants(t, "the new one", after.Sync("a"), api.OK)
	after.Limit(0)
	wants(t, "the new one", after.Remove("a"), api.ErrDown)
	has(t, d.Crash(nil), "a", "123")
}
