package snap

import (
	"bytes"
	"strings"
	"testing"

	"argosy/api"
	"argosy/disk"
)

// P8.2: a checkpoint is written, read, and written again, beside other files.
func TestSave(t *testing.T) {
	d := newDisk(t, "a", "of others", "z", "of others")
	refuses(t, d, "s", api.ErrNoFile)
	for _, size := range append(sizes(), 3, 0) {
		b := body(size, size)
		wants(t, "Save", Save(d, "s", b), api.OK)
		loads(t, d, "s", b)
		loads(t, d.Crash(nil), "s", b)
		stands(t, d, "a", "of others", "s", string(Pack(b)), "z", "of others")
	}
}

// P8.2: checkpoints of several names are each by itself, also where one's name is another's with ~ behind it.
func TestSaveNames(t *testing.T) {
	d := newDisk(t)
	long := strings.Repeat("n", 15)
	names := []string{"a", "b", "ab", "\x00", "\xff\xfe", "é", long, long[:14] + "m"}
	for i, name := range names {
		wants(t, "Save", Save(d, name, body(i, i*500)), api.OK)
	}
	for i, name := range names {
		loads(t, d, name, body(i, i*500))
	}
	wants(t, "Save", Save(d, "x~", []byte("tilde")), api.OK)
	loads(t, d, "x~", []byte("tilde"))
	wants(t, "Save", Save(d, "x", []byte("plain")), api.OK)
	loads(t, d, "x", []byte("plain"))
	refuses(t, d, "x~", api.ErrNoFile)
}

// P8.2: names that are none are told first, and nothing is done.
func TestSaveNoName(t *testing.T) {
	d := newDisk(t, "a", "1", "~", "2")
	long := strings.Repeat("n", 15)
	for range 2 {
		for _, name := range []string{"", long + "n", long + "~", strings.Repeat("n", 100)} {
			wants(t, "Save", Save(d, name, []byte("body")), api.ErrArg)
		}
		stands(t, d, "a", "1", "~", "2")
		d.Limit(0)
		wants(t, "the power's end", d.Sync("a"), api.ErrDown)
	}
}

// P8.2: an elder draft is removed, whatever it has, and only that.
func TestSaveOverDraft(t *testing.T) {
	packed := string(Pack([]byte("other")))
	for _, draft := range []string{"", "bytes", packed, packed[:9]} {
		d := newDisk(t, "s", string(Pack([]byte("old"))), "s~", draft, "s~~", "1", "t~", "2")
		wants(t, "Save", Save(d, "s", []byte("new")), api.OK)
		stands(t, d, "s", string(Pack([]byte("new"))), "s~~", "1", "t~", "2")
		loads(t, d.Crash(nil), "s", []byte("new"))
	}
}

// P8.2: what is done, change by change: each limit ends one change later.
func TestSaveSteps(t *testing.T) {
	before, after := string(Pack([]byte("old"))), string(Pack([]byte("new")))
	for limit, want := range [][]string{
		{"s", before, "s~", after},
		{"s", before, "s~", after},
		{"s", before, "s~", after},
		{"s", after},
	} {
		d := newDisk(t, "s", before)
		d.Limit(limit)
		err := Save(d, "s", []byte("new"))
		wants(t, "Save", err, []api.Errno{api.ErrDown, api.ErrDown, api.ErrDown, api.OK}[limit])
		stands(t, d, want...)
		wants(t, "a change more", d.Append("s", nil), api.ErrDown)
	}
	for limit, want := range [][]string{
		{"s", before, "s~", "draft"},
		{"s", before, "s~", after},
		{"s", before, "s~", after},
		{"s", before, "s~", after},
		{"s", after},
	} {
		d := newDisk(t, "s", before, "s~", "draft")
		d.Limit(limit)
		err := Save(d, "s", []byte("new"))
		wants(t, "Save", err, []api.Errno{api.ErrDown, api.ErrDown, api.ErrDown, api.ErrDown, api.OK}[limit])
		stands(t, d, want...)
		wants(t, "a change more", d.Append("s", nil), api.ErrDown)
	}
}

// P8.2: what is renamed was synced: behind a crash that keeps nothing, the draft that wasn't renamed is whole.
func TestSaveSyncs(t *testing.T) {
	b := body(7, 2000)
	for limit, want := range []string{"", "", string(Pack(b))} {
		d := newDisk(t)
		d.Limit(limit)
		wants(t, "Save", Save(d, "s", b), api.ErrDown)
		stands(t, d.Crash(nil), "s~", want)
	}
}

// P8.2: a disk without room, for bytes or for a file more.
func TestSaveFull(t *testing.T) {
	old := body(1, 30)
	d, err := disk.New(200)
	wants(t, "disk.New", err, api.OK)
	wants(t, "Save", Save(d, "s", old), api.OK)
	for _, size := range []int{144, 200, 5000} {
		wants(t, "Append", d.Append("s~", []byte("draft")), api.OK)
		wants(t, "Save", Save(d, "s", body(2, size)), api.ErrFull)
		stands(t, d, "s", string(Pack(old)))
		loads(t, d, "s", old)
	}
	// A draft has 8 bytes for the size, if that has two, and 6 more for each part.
	wants(t, "the most that fits", Save(d, "s", body(2, 200-43-14)), api.OK)
	loads(t, d, "s", body(2, 200-43-14))
	d = newDisk(t)
	wants(t, "Save", Save(d, "s", old), api.OK)
	for i := range api.MaxFiles - 1 {
		wants(t, "Append", d.Append("f"+string('0'+rune(i)), nil), api.OK)
	}
	wants(t, "Save", Save(d, "s", []byte("new")), api.ErrFull)
	loads(t, d, "s", old)
	wants(t, "Remove", d.Remove("f0"), api.OK)
	wants(t, "Save", Save(d, "s", []byte("new")), api.OK)
	loads(t, d, "s", []byte("new"))
}

// P8.2: the disk's errors, and bytes that are no checkpoint.
func TestLoadErrors(t *testing.T) {
	whole := string(Pack(body(1, 1200)))
	d := newDisk(t, "empty", "", "half", whole[:1000], "s", whole, "tail", whole+"t", "text", "text")
	for _, name := range []string{"", "t", "s~", strings.Repeat("n", 16), strings.Repeat("n", 100)} {
		refuses(t, d, name, api.ErrNoFile)
	}
	for _, name := range []string{"empty", "half", "tail", "text"} {
		refuses(t, d, name, api.ErrTorn)
	}
	loads(t, d, "s", body(1, 1200))
	wants(t, "Append", d.Append(strings.Repeat("n", 16), Pack([]byte("long"))), api.OK)
	loads(t, d, strings.Repeat("n", 16), []byte("long"))
	d.Limit(0)
	loads(t, d, "s", body(1, 1200))
	wants(t, "the power's end", d.Sync("s"), api.ErrDown)
	for _, name := range []string{"", "s", "t", "half"} {
		refuses(t, d, name, api.ErrDown)
	}
}

// P8.2: Load and a disk that is down change nothing.
func TestChangesNothing(t *testing.T) {
	d := newDisk(t, "s", "torn", "s~", "draft")
	refuses(t, d, "s", api.ErrTorn)
	stands(t, d, "s", "torn", "s~", "draft")
	d.Limit(0)
	wants(t, "the power's end", d.Sync("s"), api.ErrDown)
	wants(t, "Save", Save(d, "s", []byte("new")), api.ErrDown)
	stands(t, d, "s", "torn", "s~", "draft")
}

// P8.4: of Save and Load.
func TestDiskMemory(t *testing.T) {
	d := newDisk(t)
	b := body(3, 1500)
	given := roomy(b)
	wants(t, "Save", Save(d, "s", given), api.OK)
	if !isUnchanged(given, b) {
		t.Error("Save has changed what it was given")
	}
	clear(given)
	loads(t, d, "s", b)
	first, _ := Load(d, "s")
	second, _ := Load(d, "s")
	clear(first[:cap(first)])
	if !bytes.Equal(second, b) {
		t.Error("what Load gives shares memory")
	}
	loads(t, d, "s", b)
}
