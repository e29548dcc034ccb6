package durable

import (
	"slices"
	"testing"

	"argosy/api"
)

// P22.8: groups aren't changed, their spare room neither, and may be written over.
func TestGroupsAreLeft(t *testing.T) {
	d := newDisk(t, "g20", framed(t, "\x02\x00\x05\x01x"), "life", packed("\x00\x01"))
	groups := []int{3, 2, 7, 7}[:2]
	k, err := Open(d, groups, 0)
	wants(t, "Open", err, api.OK)
	if got := groups[:4]; !slices.Equal(got, []int{3, 2, 7, 7}) {
		t.Errorf("groups were changed: %v", got)
	}
	clear(groups)
	has(t, k, 2, 5, vote(0, 5, "x"))
	has(t, k, 3, 0)
	denies(t, k, 0, 9, api.OK)
}

// P22.8: a state isn't changed, its spare room neither, and may be written over; what is loaded is new memory.
func TestStateIsNew(t *testing.T) {
	d, k := formatted(t)
	state := roomy("state")
	wants(t, "Save", k.Save(state), api.OK)
	if !isUnchanged(state, "state") {
		t.Errorf("a state was changed: %q", state)
	}
	clear(state[:cap(state)])
	loads(t, k, "state")
	got, _ := k.Load()
	other, _ := k.Load()
	clear(got[:cap(got)])
	if string(other) != "state" {
		t.Errorf("two answers share memory: %q", other)
	}
	clear(other[:cap(other)])
	loads(t, k, "state")
	loads(t, opened(t, d.Crash(nil)), "state")
}

// P22.8: votes that are told are new memory.
func TestVotesAreNew(t *testing.T) {
	d, k := formatted(t)
	all := []api.Vote[string]{vote(0, 5, "x"), vote(1, 5, "y"), vote(2, 5, "z")}
	takes(t, k, 1, all...)
	got, _, _ := k.Promise(1, 5, 0)
	other, _, _ := k.Promise(1, 6, 0)
	clear(got[:cap(got)])
	if !slices.Equal(other, all) {
		t.Errorf("two answers share memory: %v", other)
	}
	takes(t, k, 1, vote(0, 7, "other"))
	if !slices.Equal(other, all) {
		t.Errorf("an answer goes on with the keeper: %v", other)
	}
	clear(other[:cap(other)])
	has(t, k, 1, 7, vote(0, 7, "other"), all[1], all[2])
	has(t, opened(t, d.Crash(nil), 1), 1, 7, vote(0, 7, "other"), all[1], all[2])
}

// Rule 6: two keepers, each with its disk, are by themselves.
func TestThingsAreByThemselves(t *testing.T) {
	d, one := formatted(t)
	takes(t, one, 1, vote(0, 5, "x"))
	wants(t, "Save", one.Save([]byte("elder")), api.OK)
	two := opened(t, d.Crash(nil), 1, 3)
	takes(t, two, 1, vote(0, 6, "y"))
	wants(t, "Save", two.Save([]byte("state")), api.OK)
	takes(t, one, 3, vote(0, 9, "z"))
	has(t, one, 1, 5, vote(0, 5, "x"))
	has(t, two, 1, 6, vote(0, 6, "y"))
	has(t, two, 3, 0)
	loads(t, one, "elder")
	loads(t, two, "state")
	if one.Epoch() != 1 || two.Epoch() != 2 {
		t.Errorf("%d, %d", one.Epoch(), two.Epoch())
	}
}
