package durable

import (
	"math"
	"testing"

	"argosy/api"
)

// P22.4, P22.5: a node that isn't a voter promises nothing and takes nothing, and says OK to all.
func TestNoVoter(t *testing.T) {
	files := []string{"g00", framed(t, "\x02\x00\x05\x01v"), "life", packed("\x01\x00")}
	d := newDisk(t, files[:2]...)
	k := opened(t, d, 0, 1)
	for _, group := range []int{0, 1, 2, -1} {
		for _, ballot := range []uint64{0, 4, 5, 6, math.MaxUint64} {
			denies(t, k, group, ballot, api.OK)
			for _, slot := range []int{-1, 0, 64} {
				leaves(t, k, group, vote(slot, ballot, ""), api.OK)
				leaves(t, k, group, vote(slot, ballot, long(4001)), api.OK)
			}
		}
	}
	if k.Voter() || k.Promised(0) != 5 || k.Promised(1) != 0 || k.Promised(2) != 0 {
		t.Errorf("%v, %d, %d", k.Voter(), k.Promised(0), k.Promised(1))
	}
	stands(t, d, files...)
}

// P22.4, P22.5: groups that the keeper wasn't opened with, though there is a log of theirs.
func TestOtherGroups(t *testing.T) {
	files := []string{"g00", framed(t, "\x02\x00\x05\x01v"), "life", packed("\x00\x01")}
	d := newDisk(t, files...)
	k := opened(t, d, 1, 3)
	for _, group := range []int{0, 2, 4, -1, math.MinInt, math.MaxInt} {
		for _, ballot := range []uint64{0, 6, math.MaxUint64} {
			denies(t, k, group, ballot, api.OK)
			leaves(t, k, group, vote(0, ballot, ""), api.OK)
			leaves(t, k, group, vote(0, ballot, long(4001)), api.OK)
		}
		if got := k.Promised(group); got != 0 {
			t.Errorf("Promised of %d: %d", group, got)
		}
	}
	files[3] = packed("\x01\x01")
	stands(t, d, files...)
	has(t, opened(t, d, 0), 0, 5, vote(0, 5, "v"))
}

// P22.4: a ballot that is above, the same, below; a record of the first one alone.
func TestPromise(t *testing.T) {
	d, k := formatted(t)
	has(t, k, 1, 0)
	stands(t, d, "life", packed("\x01\x01"))
	promises(t, k, 1, 5, 0)
	promises(t, k, 1, 5, 0)
	denies(t, k, 1, 4, api.OK)
	denies(t, k, 1, 0, api.OK)
	promises(t, k, 1, 6, 0)
	promises(t, k, 1, math.MaxUint64, 0)
	denies(t, k, 1, math.MaxUint64-1, api.OK)
	has(t, k, 3, 0)
	stands(t, d, "g10", framed(t, "\x01\x05", "\x01\x06", "\x01"+most), "life", packed("\x01\x01"))
}

// P22.4: what was taken is told from a place on.
func TestPromiseTells(t *testing.T) {
	_, k := formatted(t)
	one, two, three := vote(0, 5, "one"), vote(7, 6, "two"), vote(63, 6, "")
	takes(t, k, 1, one, two, three)
	for i, c := range []struct {
		from int
		want []api.Vote[string]
	}{
		{math.MinInt, []api.Vote[string]{one, two, three}},
		{-1, []api.Vote[string]{one, two, three}},
		{0, []api.Vote[string]{one, two, three}},
		{1, []api.Vote[string]{two, three}},
		{7, []api.Vote[string]{two, three}},
		{8, []api.Vote[string]{three}},
		{63, []api.Vote[string]{three}},
		{64, nil},
		{math.MaxInt, nil},
	} {
		promises(t, k, 1, 6+uint64(i/2), c.from, c.want...)
		promises(t, k, 3, uint64(i), c.from)
	}
}

// P22.5: ballots, places and sizes that are taken, and others; each that is taken has its record, also when it was taken before.
func TestAccept(t *testing.T) {
	d, k := formatted(t)
	promises(t, k, 1, 5, 0)
	for _, slot := range []int{math.MinInt, -1, 64, math.MaxInt} {
		leaves(t, k, 1, vote(slot, 5, "x"), api.OK)
		leaves(t, k, 1, vote(slot, 9, long(4001)), api.OK)
	}
	leaves(t, k, 1, vote(0, 4, "x"), api.OK)
	leaves(t, k, 1, vote(0, 4, long(4001)), api.OK)
	leaves(t, k, 1, vote(0, 5, long(4001)), api.ErrArg)
	leaves(t, k, 1, vote(0, 9, long(100000)), api.ErrArg)
	has(t, k, 1, 5)
	takes(t, k, 1, vote(0, 5, "x"), vote(0, 5, "x"), vote(0, 5, "y"), vote(63, 6, "z"))
	leaves(t, k, 1, vote(0, 5, "x"), api.OK)
	denies(t, k, 1, 5, api.OK)
	has(t, k, 1, 6, vote(0, 5, "y"), vote(63, 6, "z"))
	has(t, k, 3, 0)
	stands(t, d,
		"g10", framed(t, "\x01\x05", "\x02\x00\x05\x01x", "\x02\x00\x05\x01x", "\x02\x00\x05\x01y", "\x02\x3f\x06\x01z"),
		"life", packed("\x01\x01"))
}

// P22.5: 4000 bytes of any kind are taken, and come up again.
func TestLongValue(t *testing.T) {
	value := ""
	for i := range 4000 {
		value += string([]byte{byte(i * 7)})
	}
	d, k := formatted(t)
	takes(t, k, 3, vote(63, math.MaxUint64, value))
	has(t, k, 3, math.MaxUint64, vote(63, math.MaxUint64, value))
	has(t, opened(t, d.Crash(nil), 3), 3, math.MaxUint64, vote(63, math.MaxUint64, value))
}

// P22.4, P22.5: the power ends at the record's bytes, or ahead of their Sync: nothing is promised or taken; what is promised already is told.
func TestPowerEnds(t *testing.T) {
	for limit := range 2 {
		for kind := range 2 {
			d, k := formatted(t)
			takes(t, k, 1, vote(0, 5, "x"))
			d.Limit(limit)
			for range 3 {
				if kind == 0 {
					denies(t, k, 1, 6, api.ErrDown)
				} else {
					leaves(t, k, 1, vote(0, 6, "y"), api.ErrDown)
				}
				leaves(t, k, 1, vote(0, 6, long(4001)), api.ErrArg)
				leaves(t, k, 1, vote(64, 6, ""), api.OK)
				denies(t, k, 1, 4, api.OK)
				has(t, k, 1, 5, vote(0, 5, "x"))
				if !k.Voter() || k.Epoch() != 1 {
					t.Errorf("%v, %d", k.Voter(), k.Epoch())
				}
			}
			has(t, opened(t, d.Crash(nil), 1), 1, 5, vote(0, 5, "x"))
			if kind == 0 {
				has(t, opened(t, allKept(d), 1), 1, 6, vote(0, 5, "x"))
			} else {
				has(t, opened(t, allKept(d), 1), 1, 6, vote(0, 6, "y"))
			}
		}
	}
}

// P22.4, P22.5: a promise, and a vote, take two changes each: the record's, and its Sync.
func TestChanges(t *testing.T) {
	d, k := formatted(t)
	d.Limit(4)
	promises(t, k, 1, 5, 0)
	promises(t, k, 1, 5, 0)
	takes(t, k, 3, vote(0, 9, "x"))
	denies(t, k, 1, 4, api.OK)
	leaves(t, k, 3, vote(0, 8, "x"), api.OK)
	has(t, k, 3, 9, vote(0, 9, "x"))
	denies(t, k, 1, 6, api.ErrDown)
	k = opened(t, d.Crash(nil), 1, 3)
	has(t, k, 1, 5)
	has(t, k, 3, 9, vote(0, 9, "x"))
}
