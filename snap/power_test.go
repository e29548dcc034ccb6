package snap

import (
	"bytes"
	"math"
	"slices"
	"strings"
	"testing"

	"argosy/api"
	"argosy/disk"
)

// state is what Load tells.
type state struct {
	body []byte
	err  api.Errno
}

func stateOf(d *disk.Disk) state {
	b, err := Load(d, "s")
	return state{b, err}
}

func (x state) is(y state) bool {
	return x.err == y.err && bytes.Equal(x.body, y.body)
}

// beginnings gives the files that a Save may find: name, bytes, name, bytes ..
func beginnings() [][]string {
	whole := string(Pack(body(1, 1100)))
	return [][]string{
		{},
		{"s", whole},
		{"s", whole, "s~", ""},
		{"s", whole, "s~", whole[:500]},
		{"s~", string(Pack(body(3, 10)))},
		{"a", "of others", "s", whole, "z", "of others"},
		{"s", whole[:100]},
		{"s", ""},
	}
}

// P8.3: the power goes at each change, and each number of bytes is kept.
func TestPower(t *testing.T) {
	after := state{body(2, 1300), api.OK}
	for _, files := range beginnings() {
		for limit := range 6 {
			d := newDisk(t, files...)
			before := stateOf(d)
			d.Limit(limit)
			err := Save(d, "s", after.body)
			for keep := range len(Pack(after.body)) + 1 {
				again := d.Crash([]int{keep, keep, keep, keep})
				got := stateOf(again)
				if !got.is(after) && (err == api.OK || !got.is(before)) {
					t.Fatalf("of %d files, limit %d, keep %d: Save %v, then %d bytes, %v", len(files)/2, limit, keep, err, len(got.body), got.err)
				}
				if keep%100 == 0 {
					wants(t, "Save again", Save(again, "s", []byte("more")), api.OK)
					loads(t, again.Crash(nil), "s", []byte("more"))
				}
			}
		}
	}
}

// told gives all that Save and Load tell over a row of steps, in several lives of a disk, and fails if a life begins with another body than one of the last two.
func told(t *testing.T, seed uint64) []byte {
	t.Helper()
	next := steps(seed)
	d := newDisk(t)
	var all []byte
	last := stateOf(d)
	for range 20 {
		d.Limit(next(9))
		asked := last
		for range 1 + next(3) {
			b := body(next(1000), next(2500))
			err := Save(d, "s", b)
			all = append(all, byte(err))
			asked = state{b, api.OK}
			if err != api.OK {
				wants(t, "Save", err, api.ErrDown)
				break
			}
			last = asked
			loads(t, d, "s", b)
		}
		d = d.Crash([]int{next(3000), next(3000)})
		got := stateOf(d)
		if !got.is(last) && !got.is(asked) {
			t.Fatalf("seed %d: %d bytes, %v", seed, len(got.body), got.err)
		}
		last = got
		all = append(all, byte(got.err))
		all = append(all, got.body...)
	}
	return all
}

// P2, P8.3: many lives; two runs of the same calls tell the same.
func TestLives(t *testing.T) {
	for seed := range uint64(100) {
		if !bytes.Equal(told(t, seed), told(t, seed)) {
			t.Fatalf("seed %d: two runs differ", seed)
		}
	}
}

// P1: all arguments, whatever they are, on a disk that is up and on one that goes down.
func TestAnyArguments(t *testing.T) {
	for _, limit := range []int{-1, 0, 1, 2, 3, math.MaxInt} {
		d := newDisk(t, "a", "bytes", "a~", "bytes")
		d.Limit(limit)
		for _, name := range []string{"", "a", "~", "\xff\xfe", strings.Repeat("n", 15), strings.Repeat("n", 16), strings.Repeat("n", 1000)} {
			for _, size := range []int{0, 1, 4096, 4097, 70000, 1 << 20, 1<<20 + 1} {
				Save(d, name, make([]byte, size))
				Load(d, name)
			}
		}
	}
	for seed := range uint64(2000) {
		next := steps(seed)
		data := slices.Concat(frames(t, number(next(3))), body(int(seed), next(20)))
		Unpack(data[:next(len(data)+1)])
	}
}
