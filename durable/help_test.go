package durable

import (
	"bytes"
	"slices"
	"strings"
	"testing"

	"argosy/api"
	"argosy/code"
	"argosy/disk"
	"argosy/snap"
)

// steps is a row of numbers that looks thrown, and is the same in each run.
func steps(seed uint64) func(below int) int {
	return func(below int) int {
		seed = seed*6364136223846793005 + 1442695040888963407
		return int(seed>>33) % below
	}
}

// wants fails, unless a call has answered what it should.
func wants(t *testing.T, call string, got, want api.Errno) {
	t.Helper()
	if got != want {
		t.Fatalf("%s: %v, want %v", call, got, want)
	}
}

// newDisk gives a disk with files whose bytes last: name, bytes, name, bytes ..
func newDisk(t *testing.T, files ...string) *disk.Disk {
	t.Helper()
	d, err := disk.New(api.MaxRoom)
	wants(t, "disk.New", err, api.OK)
	for i := 0; i < len(files); i += 2 {
		wants(t, "lay "+files[i], d.Append(files[i], []byte(files[i+1])), api.OK)
		wants(t, "lay "+files[i], d.Sync(files[i]), api.OK)
	}
	return d
}

// allKept gives a disk on which all that is written lasts, for what is there to be read also when the power went.
func allKept(d *disk.Disk) *disk.Disk {
	return d.Crash(slices.Repeat([]int{-1}, api.MaxFiles))
}

// stands fails, unless a disk has just these files: name, bytes, name, bytes ..
func stands(t *testing.T, d *disk.Disk, files ...string) {
	t.Helper()
	var names []string
	for i := 0; i < len(files); i += 2 {
		names = append(names, files[i])
		if got, err := allKept(d).Read(files[i]); string(got) != files[i+1] || err != api.OK {
			t.Fatalf("%s: %q, %v, want %q", files[i], got, err, files[i+1])
		}
	}
	if got := d.Names(); !slices.Equal(got, names) {
		t.Fatalf("files: %q, want %q", got, names)
	}
}

// packed gives the bytes of a checkpoint's file.
func packed(body string) string {
	return string(snap.Pack([]byte(body)))
}

// framed gives the frames of records, one behind the other.
func framed(t *testing.T, records ...string) string {
	t.Helper()
	var all []byte
	for _, r := range records {
		f, err := code.Frame([]byte(r))
		wants(t, "Frame", err, api.OK)
		all = append(all, f...)
	}
	return string(all)
}

// opened opens a disk with clock 0, and fails if that is refused.
func opened(t *testing.T, d *disk.Disk, groups ...int) *Keeper {
	t.Helper()
	k, err := Open(d, groups, 0)
	if k == nil || err != api.OK {
		t.Fatalf("Open: %v", err)
	}
	return k
}

// refused fails, unless Open answers an error, and nothing else.
func refused(t *testing.T, d *disk.Disk, groups []int, clock uint64, want api.Errno) {
	t.Helper()
	if k, err := Open(d, groups, clock); k != nil || err != want {
		t.Fatalf("Open: %v, %v, want %v", k, err, want)
	}
}

// formatted gives the disk of a voter in its life 1, of groups 1 and 3.
func formatted(t *testing.T) (*disk.Disk, *Keeper) {
	t.Helper()
	d := newDisk(t)
	wants(t, "Format", Format(d), api.OK)
	return d, opened(t, d, 1, 3)
}

func vote(slot int, ballot uint64, value string) api.Vote[string] {
	return api.Vote[string]{Slot: slot, Ballot: ballot, Value: value}
}

// promises fails, unless a ballot is promised, and these votes are told.
func promises(t *testing.T, k *Keeper, group int, ballot uint64, from int, want ...api.Vote[string]) {
	t.Helper()
	votes, ok, err := k.Promise(group, ballot, from)
	if !ok || err != api.OK || !slices.Equal(votes, want) {
		t.Fatalf("Promise of %d in %d: %v, %v, %v, want %v", ballot, group, votes, ok, err, want)
	}
	if got := k.Promised(group); got != ballot {
		t.Fatalf("Promised of %d: %d, want %d", group, got, ballot)
	}
}

// denies fails, unless a ballot isn't promised, with this error or OK.
func denies(t *testing.T, k *Keeper, group int, ballot uint64, want api.Errno) {
	t.Helper()
	votes, ok, err := k.Promise(group, ballot, 0)
	if ok || err != want || len(votes) > 0 {
		t.Fatalf("Promise of %d in %d: %v, %v, %v, want %v", ballot, group, votes, ok, err, want)
	}
}

// takes fails, unless votes are taken.
func takes(t *testing.T, k *Keeper, group int, votes ...api.Vote[string]) {
	t.Helper()
	for _, v := range votes {
		if ok, err := k.Accept(group, v); !ok || err != api.OK {
			t.Fatalf("Accept of %d, %d in %d: %v, %v", v.Slot, v.Ballot, group, ok, err)
		}
		if got := k.Promised(group); got != v.Ballot {
			t.Fatalf("Promised of %d: %d, want %d", group, got, v.Ballot)
		}
	}
}

// leaves fails, unless a vote isn't taken, with this error or OK.
func leaves(t *testing.T, k *Keeper, group int, v api.Vote[string], want api.Errno) {
	t.Helper()
	if ok, err := k.Accept(group, v); ok || err != want {
		t.Fatalf("Accept of %d, %d in %d: %v, %v, want %v", v.Slot, v.Ballot, group, ok, err, want)
	}
}

// has fails, unless a ballot is promised, and these votes are taken in a group. (What is promised already is told without a change of the disk.)
func has(t *testing.T, k *Keeper, group int, ballot uint64, want ...api.Vote[string]) {
	t.Helper()
	if got := k.Promised(group); got != ballot {
		t.Fatalf("Promised of %d: %d, want %d", group, got, ballot)
	}
	promises(t, k, group, ballot, 0, want...)
}

// loads fails, unless this state is kept.
func loads(t *testing.T, k *Keeper, want string) {
	t.Helper()
	if got, err := k.Load(); string(got) != want || err != api.OK {
		t.Fatalf("Load: %q, %v, want %q", got, err, want)
	}
}

// fails fails, unless Load answers an error, and nothing else.
func fails(t *testing.T, k *Keeper, want api.Errno) {
	t.Helper()
	if got, err := k.Load(); len(got) > 0 || err != want {
		t.Fatalf("Load: %q, %v, want %v", got, err, want)
	}
}

// roomy gives bytes with spare room behind them, which must stay as it is.
func roomy(text string) []byte {
	return append([]byte(text), bytes.Repeat([]byte{0xee}, 8)...)[:len(text)]
}

// isUnchanged tells whether bytes of roomy are as they were made.
func isUnchanged(b []byte, text string) bool {
	return string(b) == text && bytes.Equal(b[len(b):][:8], bytes.Repeat([]byte{0xee}, 8))
}

// long gives a value of a size.
func long(size int) string {
	return strings.Repeat("v", size)
}
