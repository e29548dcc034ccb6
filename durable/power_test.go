package durable

import (
	"slices"
	"strings"
	"testing"

	"argosy/api"
	"argosy/disk"
)

// told is what a disk's lives have told in one group, and of the state.
type told struct {
	promised uint64
	votes    map[int]api.Vote[string]
}

// with gives what would be told, if a vote were taken, or, if it has no place, a ballot promised.
func (x told) with(v api.Vote[string]) told {
	y := told{promised: v.Ballot, votes: map[int]api.Vote[string]{}}
	for slot, old := range x.votes {
		y.votes[slot] = old
	}
	if v.Slot >= 0 {
		y.votes[v.Slot] = v
	}
	return y
}

// is tells whether a keeper has just this in a group.
func (x told) is(k *Keeper, group int) bool {
	votes, ok, err := k.Promise(group, k.Promised(group), 0)
	if !ok || err != api.OK || k.Promised(group) != x.promised || len(votes) != len(x.votes) {
		return false
	}
	for _, v := range votes {
		if x.votes[v.Slot] != v {
			return false
		}
	}
	return true
}

// history is what was told in all lives of a disk, and what was asked last, and not answered but by an error.
type history struct {
	groups [4]told
	asked  [4]told
	state  string
	wanted string
}

// check fails, unless a keeper has what was told, perhaps with what was asked last; that is what was told from now on.
func (h *history) check(t *testing.T, k *Keeper, groups []int) {
	t.Helper()
	for _, group := range groups {
		if h.asked[group].is(k, group) {
			h.groups[group] = h.asked[group]
		} else if !h.groups[group].is(k, group) {
			t.Fatalf("group %d: %d, told %v, asked %v", group, k.Promised(group), h.groups[group], h.asked[group])
		}
		h.asked[group] = h.groups[group]
	}
	got, err := k.Load()
	if err == api.ErrNoFile && h.state == "" {
		return
	}
	if err != api.OK || string(got) != h.state && string(got) != h.wanted {
		t.Fatalf("state %q, %v, told %q, asked %q", got, err, h.state, h.wanted)
	}
	h.state, h.wanted = string(got), string(got)
}

// do asks a keeper for something, and tells whether it answered no error.
func (h *history) do(t *testing.T, k *Keeper, group int, next func(int) int) bool {
	t.Helper()
	ballot := k.Promised(group) + uint64(next(3))
	v := vote(next(5), ballot, strings.Repeat(string('a'+rune(next(26))), next(30)))
	err := api.OK
	switch next(5) {
	case 0:
		h.wanted = v.Value + "state"
		if err = k.Save([]byte(h.wanted)); err == api.OK {
			h.state = h.wanted
		}
		return err == api.OK
	case 1, 2:
		v.Slot = -1
		_, _, err = k.Promise(group, ballot, 0)
	default:
		if next(8) == 0 {
			v.Value = long(4000)
		}
		_, err = k.Accept(group, v)
	}
	h.asked[group] = h.groups[group].with(v)
	if err != api.OK {
		wants(t, "at the power's end", err, api.ErrDown)
		return false
	}
	h.groups[group] = h.asked[group]
	return true
}

// keeps gives some numbers, for as many files as a disk may have.
func keeps(next func(int) int) []int {
	var all []int
	for range api.MaxFiles {
		all = append(all, next(4100))
	}
	return all
}

// P22.7: the power goes wherever it may, within an opening, too, over many lives, of groups in any order.
func TestLives(t *testing.T) {
	for limit := range 40 {
		for seed := range uint64(12) {
			next := steps(seed*1000 + uint64(limit))
			d := newDisk(t)
			wants(t, "Format", Format(d), api.OK)
			h := &history{}
			for range 12 {
				groups := [][]int{{0, 3}, {3, 0}, {3, 1}, {0}}[next(4)]
				d.Limit(limit - next(5))
				k, err := Open(d, groups, 0)
				if err == api.OK {
					h.check(t, k, groups)
					for h.do(t, k, groups[next(len(groups))], next) && next(60) > 0 {
					}
				} else {
					wants(t, "Open", err, api.ErrDown)
				}
				d = d.Crash(keeps(next))
			}
			h.check(t, opened(t, d, 0, 1), []int{0, 1})
			h.check(t, opened(t, d, 3), []int{3})
		}
	}
}

// P22.7: the power goes at each change of a row of calls, and each number of bytes is kept.
func TestEachKeep(t *testing.T) {
	for limit := range 24 {
		d, k := formatted(t)
		d.Limit(limit)
		h := &history{}
		next := steps(5)
		for h.do(t, k, []int{1, 3}[next(2)], next) {
		}
		for keep := range 60 {
			each := *h
			after := d.Crash(slices.Repeat([]int{keep}, api.MaxFiles))
			again := opened(t, after, 3, 1)
			each.check(t, again, []int{1, 3})
			takes(t, again, 1, vote(9, 1000, "more"))
			each.groups[1] = each.groups[1].with(vote(9, 1000, "more"))
			each.asked[1] = each.groups[1]
			each.check(t, opened(t, after.Crash(nil), 1, 3), []int{1, 3})
		}
	}
}

// P22.7: the power goes behind each change at the end of a log's part, where the next one begins.
func TestNextPart(t *testing.T) {
	for limit := range 5 {
		for _, keep := range []int{0, 1, 5, 6, 2000, 4010, 4011, 4012} {
			d, k := formatted(t)
			h := &history{}
			for slot := range 10 {
				v := vote(slot, uint64(slot), long(4000))
				takes(t, k, 1, v)
				h.groups[1] = h.groups[1].with(v)
			}
			d.Limit(limit)
			for slot := 10; slot < 12; slot++ {
				v := vote(slot, uint64(slot), long(4000))
				h.asked[1] = h.groups[1].with(v)
				if ok, _ := k.Accept(1, v); !ok {
					break
				}
				h.groups[1] = h.asked[1]
			}
			if want := 10 + limit/2; len(h.groups[1].votes) != min(want, 12) {
				t.Fatalf("limit %d: %d votes", limit, len(h.groups[1].votes))
			}
			h.check(t, opened(t, d.Crash([]int{keep, keep, keep}), 1), []int{1})
		}
	}
}

// P22.7: the same keeper tells what lasts, whatever its disk refused meanwhile.
func TestRefusedMeanwhile(t *testing.T) {
	d, err := disk.New(200)
	wants(t, "disk.New", err, api.OK)
	wants(t, "Format", Format(d), api.OK)
	k := opened(t, d, 1, 3)
	takes(t, k, 1, vote(0, 5, "x"))
	leaves(t, k, 1, vote(0, 6, long(300)), api.ErrFull)
	leaves(t, k, 1, vote(0, 6, long(4001)), api.ErrArg)
	takes(t, k, 1, vote(1, 5, "y"))
	promises(t, k, 1, 7, 0, vote(0, 5, "x"), vote(1, 5, "y"))
	has(t, opened(t, d.Crash(nil), 3, 1), 1, 7, vote(0, 5, "x"), vote(1, 5, "y"))
}
