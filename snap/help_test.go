package snap

import (
	"bytes"
	"slices"
	"testing"

	"argosy/api"
	"argosy/code"
	"argosy/disk"
)

// steps is a row of numbers that looks thrown, and is the same in each run.
func steps(seed uint64) func(below int) int {
	return func(below int) int {
		seed = seed*6364136223846793005 + 1442695040888963407
		return int(seed>>33) % below
	}
}

// body gives bytes that differ from place to place, and from seed to seed.
func body(seed, size int) []byte {
	next := steps(uint64(seed))
	b := make([]byte, size)
	for i := range b {
		b[i] = byte(next(256))
	}
	return b
}

// wants fails, unless a call has answered what it should.
func wants(t *testing.T, call string, got, want api.Errno) {
	t.Helper()
	if got != want {
		t.Fatalf("%s: %v, want %v", call, got, want)
	}
}

// newDisk gives a disk with files whose bytes last: name, bytes, name, bytes ..
func newDisk(t *testing.T, files ...string) *disk.Disk {
	t.Helper()
	d, err := disk.New(api.MaxRoom)
	wants(t, "disk.New", err, api.OK)
	for i := 0; i < len(files); i += 2 {
		wants(t, "lay "+files[i], d.Append(files[i], []byte(files[i+1])), api.OK)
		wants(t, "lay "+files[i], d.Sync(files[i]), api.OK)
	}
	return d
}

// all gives a disk on which all that is written lasts, for what is there to be read also when the power went.
func all(d *disk.Disk) *disk.Disk {
	return d.Crash(slices.Repeat([]int{-1}, api.MaxFiles))
}

// stands fails, unless a disk has just these files: name, bytes, name, bytes ..
func stands(t *testing.T, d *disk.Disk, files ...string) {
	t.Helper()
	var names []string
	for i := 0; i < len(files); i += 2 {
		names = append(names, files[i])
		got, err := all(d).Read(files[i])
		if string(got) != files[i+1] || err != api.OK {
			t.Fatalf("%s: %q, %v, want %q", files[i], got, err, files[i+1])
		}
	}
	if got := d.Names(); !slices.Equal(got, names) {
		t.Fatalf("files: %q, want %q", got, names)
	}
}

// loads fails, unless a checkpoint has this body.
func loads(t *testing.T, d *disk.Disk, name string, want []byte) {
	t.Helper()
	if got, err := Load(d, name); !bytes.Equal(got, want) || err != api.OK {
		t.Fatalf("Load of %q: %d bytes, %v, want %d", name, len(got), err, len(want))
	}
}

// refuses fails, unless Load answers an error, and nothing else.
func refuses(t *testing.T, d *disk.Disk, name string, want api.Errno) {
	t.Helper()
	if got, err := Load(d, name); len(got) != 0 || err != want {
		t.Fatalf("Load of %q: %d bytes, %v, want %v", name, len(got), err, want)
	}
}

// frames puts parts into frames, one behind the other.
func frames(t *testing.T, parts ...[]byte) []byte {
	t.Helper()
	var all []byte
	for _, part := range parts {
		f, err := code.Frame(part)
		wants(t, "Frame", err, api.OK)
		all = append(all, f...)
	}
	return all
}

// number gives a number as a Pen writes it.
func number(n int) []byte {
	p := &code.Pen{}
	p.Num(uint64(n))
	return p.Data()
}

// roomy gives bytes with spare room behind them, which must stay as it is.
func roomy(b []byte) []byte {
	return append(slices.Clone(b), bytes.Repeat([]byte{0xee}, 8)...)[:len(b)]
}

// isUnchanged tells whether bytes of roomy are as they were made.
func isUnchanged(b, want []byte) bool {
	spare := b[len(b):][:8]
	return bytes.Equal(b, want) && bytes.Equal(spare, bytes.Repeat([]byte{0xee}, 8))
}
