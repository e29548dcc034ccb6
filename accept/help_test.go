package accept

import (
	"slices"
	"testing"

	"argosy/api"
)

func vote(slot int, ballot uint64, value string) api.Vote[string] {
	return api.Vote[string]{Slot: slot, Ballot: ballot, Value: value}
}

// took gives a voter that has taken these votes, each of which it must take.
func took(t *testing.T, votes ...api.Vote[string]) *Voter[string] {
	t.Helper()
	v := New[string]()
	for _, x := range votes {
		takes(t, v, x, true)
	}
	return v
}

func takes(t *testing.T, v *Voter[string], x api.Vote[string], want bool) {
	t.Helper()
	if got := v.Accept(x); got != want {
		t.Errorf("Accept of %v: %v, want %v", x, got, want)
	}
}

// promises asks for a promise that the voter must give, and the votes that it tells of.
func promises(t *testing.T, v *Voter[string], ballot uint64, from int, want ...api.Vote[string]) {
	t.Helper()
	got, ok := v.Promise(ballot, from)
	if !ok || !slices.Equal(got, want) {
		t.Errorf("Promise of %d from %d: %v, %v, want %v", ballot, from, got, ok, want)
	}
	if v.Promised() != ballot {
		t.Errorf("Promise of %d: %d is promised", ballot, v.Promised())
	}
}

// refuses asks for a promise that the voter mustn't give.
func refuses(t *testing.T, v *Voter[string], ballot uint64, from int) {
	t.Helper()
	if got, ok := v.Promise(ballot, from); ok || len(got) != 0 {
		t.Errorf("Promise of %d from %d: %v, %v", ballot, from, got, ok)
	}
}

// stands asks for what is promised, and what is taken.
func stands(t *testing.T, v *Voter[string], promised uint64, want ...api.Vote[string]) {
	t.Helper()
	if got := v.Votes(); v.Promised() != promised || !slices.Equal(got, want) {
		t.Errorf("%d is promised, %v taken, want %d and %v", v.Promised(), got, promised, want)
	}
}
