package lead

import (
	"math"
	"slices"
	"testing"

	"argosy/api"
)

// lone gives a leader with a single voter, which has promised with these votes.
func lone[V any](t *testing.T, told ...api.Vote[V]) *Leader[V] {
	t.Helper()
	l, err := New[V](1, 1, 0)
	if err != api.OK {
		t.Fatal(err)
	}
	l.Promised(0, told)
	return l
}

// P12.5: a value is kept as it is handed in: what it shares with its giver stays shared.
func TestValuesAreKept(t *testing.T) {
	told, offered := []int{1, 2, 3}, []int{4, 5, 6}
	l := lone(t, api.Vote[[]int]{Value: told})
	told[0] = 9
	if value, ok := l.Value(); !ok || &value[0] != &told[0] {
		t.Error("what was told was copied")
	}
	if value, ok := l.Taken(0, 0); !ok || &value[0] != &told[0] {
		t.Error("what was chosen was copied")
	}
	l.Offer(offered)
	offered[0] = 9
	if value, ok := l.Value(); !ok || &value[0] != &offered[0] {
		t.Error("what was offered was copied")
	}
	if value, ok := l.Taken(0, 1); !ok || &value[0] != &offered[0] {
		t.Error("what was offered and chosen was copied")
	}
}

// P12.5: values that can't be compared, that aren't equal to themselves, that are nothing, or that take no room.
func TestValuesOfAnyType(t *testing.T) {
	calls := lone(t, api.Vote[func() int]{Ballot: 3, Value: func() int { return 3 }}, api.Vote[func() int]{Ballot: 4, Value: func() int { return 4 }})
	if value, ok := calls.Taken(0, 0); !ok || value() != 4 {
		t.Error("calls")
	}
	if value, ok := calls.Taken(0, 1); ok || value != nil {
		t.Error("a call, where nothing is under way")
	}
	floats := lone(t, api.Vote[float64]{Value: math.NaN()})
	if value, ok := floats.Value(); !ok || !math.IsNaN(value) {
		t.Errorf("no number: %v, %v", value, ok)
	}
	pointers := lone[*api.Order](t)
	if !pointers.Offer(nil) || pointers.Offer(&api.Order{}) {
		t.Error("an offer of nothing isn't one")
	}
	if value, ok := pointers.Taken(0, 0); !ok || value != nil {
		t.Errorf("no order: %v, %v", value, ok)
	}
	marks := lone(t, api.Vote[struct{}]{Slot: 1})
	if _, ok := marks.Value(); ok || !marks.Offer(struct{}{}) {
		t.Error("nothing, at 0")
	}
	if _, ok := marks.Taken(0, 0); !ok || marks.Offer(struct{}{}) {
		t.Error("nothing, at 1")
	}
	mixed := lone(t, api.Vote[any]{Value: "text"}, api.Vote[any]{Ballot: 1, Value: []int{1}})
	if value, ok := mixed.Value(); !ok || !slices.Equal(value.([]int), []int{1}) {
		t.Errorf("any: %v, %v", value, ok)
	}
}

// Rule 5: a list of votes isn't changed, its spare room neither, and isn't kept.
func TestVotesAreLeft(t *testing.T) {
	told := make([]api.Vote[string], 3, 8)
	copy(told, votes(vote(2, 1, "c"), vote(0, 3, "a"), vote(0, 4, "b")))
	before := slices.Clone(told[:cap(told)])
	l := made(t, 3, 0)
	l.Promised(0, told)
	if !slices.Equal(told[:cap(told)], before) {
		t.Errorf("the votes were changed: %v", told[:cap(told)])
	}
	for i := range told {
		told[i] = vote(i, 9, "spoiled")
	}
	l.Promised(1, told[:0])
	busy(t, l, 0, "b")
	counts(t, l, 0, 0)
	chooses(t, l, 1, 0, "b")
	idle(t, l, 1, true)
}
