package wal

import (
	"bytes"
	"slices"
	"testing"

	"argosy/api"
	"argosy/code"
	"argosy/disk"
)

// steps is a row of numbers that looks thrown, and is the same in each run.
func steps(seed uint64) func(below int) int {
	return func(below int) int {
		seed = seed*6364136223846793005 + 1442695040888963407
		return int(seed>>33) % below
	}
}

// wants fails, unless a call has answered what it should.
func wants(t *testing.T, call string, got, want api.Errno) {
	t.Helper()
	if got != want {
		t.Fatalf("%s: %v, want %v", call, got, want)
	}
}

// newDisk gives a disk without files.
func newDisk(t *testing.T) *disk.Disk {
	t.Helper()
	d, err := disk.New(api.MaxRoom)
	wants(t, "disk.New", err, api.OK)
	return d
}

// opened opens a log x, and fails if that is refused.
func opened(t *testing.T, d *disk.Disk, size int) *Log {
	t.Helper()
	l, err := Open(d, "x", size)
	if l == nil || err != api.OK {
		t.Fatalf("Open: %v", err)
	}
	return l
}

// put appends records, and fails if one is refused.
func put(t *testing.T, l *Log, records ...string) {
	t.Helper()
	for _, r := range records {
		wants(t, "Append "+r, l.Append([]byte(r)), api.OK)
	}
}

// texts gives a log's records.
func texts(l *Log) []string {
	var all []string
	for _, r := range l.Records() {
		all = append(all, string(r))
	}
	return all
}

// has fails, unless a log has just these records.
func has(t *testing.T, l *Log, records ...string) {
	t.Helper()
	if got := texts(l); !slices.Equal(got, records) {
		t.Fatalf("Records: %q, want %q", got, records)
	}
}

// framed gives the frames of records, one behind the other.
func framed(t *testing.T, records ...string) string {
	t.Helper()
	var all []byte
	for _, r := range records {
		f, err := code.Frame([]byte(r))
		wants(t, "Frame", err, api.OK)
		all = append(all, f...)
	}
	return string(all)
}

// lay lets files stand on a disk, whose bytes last: name, bytes, name, bytes ..
func lay(t *testing.T, d *disk.Disk, files ...string) *disk.Disk {
	t.Helper()
	for i := 0; i < len(files); i += 2 {
		wants(t, "lay "+files[i], d.Append(files[i], []byte(files[i+1])), api.OK)
		wants(t, "lay "+files[i], d.Sync(files[i]), api.OK)
	}
	return d
}

// stands fails, unless a disk, which isn't down, has just these files: name, bytes, name, bytes ..
func stands(t *testing.T, d *disk.Disk, files ...string) {
	t.Helper()
	var names []string
	for i := 0; i < len(files); i += 2 {
		names = append(names, files[i])
		got, err := d.Read(files[i])
		if string(got) != files[i+1] || err != api.OK {
			t.Fatalf("%s: %q, %v, want %q", files[i], got, err, files[i+1])
		}
	}
	if got := d.Names(); !slices.Equal(got, names) {
		t.Fatalf("files: %q, want %q", got, names)
	}
}

// all gives a disk on which all that is written lasts, for what is there to be read also when the power went.
func all(d *disk.Disk) *disk.Disk {
	return d.Crash([]int{-1, -1, -1, -1, -1, -1, -1, -1, -1, -1, -1, -1, -1, -1, -1, -1})
}

// alike tells whether two disks have the same files.
func alike(a, b *disk.Disk) bool {
	a, b = all(a), all(b)
	if !slices.Equal(a.Names(), b.Names()) {
		return false
	}
	for _, name := range a.Names() {
		x, _ := a.Read(name)
		y, _ := b.Read(name)
		if !bytes.Equal(x, y) {
			return false
		}
	}
	return true
}

// roomy gives bytes with spare room behind them, which must stay as it is.
func roomy(text string) []byte {
	b := bytes.Repeat([]byte{0xee}, len(text)+8)
	copy(b, text)
	return b[:len(text)]
}

// isUnchanged tells whether bytes of roomy are as they were made.
func isUnchanged(b []byte, text string) bool {
	spare := b[len(b):cap(b)]
	return string(b) == text && bytes.Equal(spare, bytes.Repeat([]byte{0xee}, len(spare)))
}
