package lead

import (
	"testing"

	"argosy/api"
)

func vote(slot int, ballot uint64, value string) api.Vote[string] {
	return api.Vote[string]{Slot: slot, Ballot: ballot, Value: value}
}

func votes(list ...api.Vote[string]) []api.Vote[string] {
	return list
}

// made gives a leader that New must give.
func made(t *testing.T, voters, from int) *Leader[string] {
	t.Helper()
	l, err := New[string](5, voters, from)
	if err != api.OK || l == nil {
		t.Fatalf("New of %d voters from %d: %v, %v", voters, from, l, err)
	}
	return l
}

// leading gives a leader to which just enough voters have promised, the first ones of them with these votes.
func leading(t *testing.T, voters, from int, told ...[]api.Vote[string]) *Leader[string] {
	t.Helper()
	l := made(t, voters, from)
	for voter := range voters/2 + 1 {
		if l.Leads() {
			t.Fatalf("%d of %d are enough", voter, voters)
		}
		var list []api.Vote[string]
		if voter < len(told) {
			list = told[voter]
		}
		l.Promised(voter, list)
	}
	if !l.Leads() {
		t.Fatalf("%d of %d aren't enough", voters/2+1, voters)
	}
	return l
}

// idle fails, unless nothing is under way.
func idle(t *testing.T, l *Leader[string], slot int, leads bool) {
	t.Helper()
	if value, ok := l.Value(); ok || value != "" {
		t.Errorf("under way: %q, %v, want nothing", value, ok)
	}
	if l.Slot() != slot || l.Leads() != leads {
		t.Errorf("Slot %d, Leads %v, want %d, %v", l.Slot(), l.Leads(), slot, leads)
	}
}

// busy fails, unless this value is under way.
func busy(t *testing.T, l *Leader[string], slot int, want string) {
	t.Helper()
	if value, ok := l.Value(); !ok || value != want {
		t.Errorf("under way: %q, %v, want %q", value, ok, want)
	}
	if l.Slot() != slot || !l.Leads() {
		t.Errorf("Slot %d, Leads %v, want %d, true", l.Slot(), l.Leads(), slot)
	}
}

func offers(t *testing.T, l *Leader[string], value string, want bool) {
	t.Helper()
	if got := l.Offer(value); got != want {
		t.Errorf("Offer of %q: %v, want %v", value, got, want)
	}
}

// counts hears of a voter whose word isn't enough, or doesn't count.
func counts(t *testing.T, l *Leader[string], voter, slot int) {
	t.Helper()
	if value, ok := l.Taken(voter, slot); ok || value != "" {
		t.Errorf("Taken of %d at %d: %q, %v", voter, slot, value, ok)
	}
}

// chooses hears of a voter whose word makes enough.
func chooses(t *testing.T, l *Leader[string], voter, slot int, want string) {
	t.Helper()
	if value, ok := l.Taken(voter, slot); !ok || value != want {
		t.Errorf("Taken of %d at %d: %q, %v, want %q", voter, slot, value, ok, want)
	}
	if l.Slot() != slot+1 {
		t.Errorf("Slot behind %d: %d", slot, l.Slot())
	}
}
