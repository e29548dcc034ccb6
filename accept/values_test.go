package accept

import (
	"math"
	"slices"
	"testing"

	"argosy/api"
)

// P11.4: a value of any type is kept as it is handed in: what it shares with its giver stays shared.
func TestValuesAreKept(t *testing.T) {
	list := []int{1, 2, 3}
	lists := New[[]int]()
	lists.Accept(api.Vote[[]int]{Slot: 4, Ballot: 1, Value: list})
	list[0] = 9
	votes, _ := lists.Promise(1, 0)
	if &votes[0].Value[0] != &list[0] || &lists.Votes()[0].Value[0] != &list[0] {
		t.Error("a list was copied")
	}
	one := &api.Order{}
	pointers := New[*api.Order]()
	pointers.Accept(api.Vote[*api.Order]{Slot: 63, Value: one})
	pointers.Accept(api.Vote[*api.Order]{Slot: 0})
	if got := pointers.Votes(); got[0].Value != nil || got[1].Value != one {
		t.Errorf("pointers: %v", got)
	}
}

// P11.4: values that can't be compared, that aren't equal to themselves, or that take no room.
func TestValuesOfAnyType(t *testing.T) {
	calls := New[func() int]()
	for i := range 3 {
		calls.Accept(api.Vote[func() int]{Slot: i, Value: func() int { return i }})
	}
	for i, x := range calls.Votes() {
		if x.Value() != i {
			t.Errorf("call %d: %d", i, x.Value())
		}
	}
	floats := New[float64]()
	floats.Accept(api.Vote[float64]{Value: math.NaN()})
	if got := floats.Votes(); len(got) != 1 || !math.IsNaN(got[0].Value) {
		t.Errorf("no number: %v", got)
	}
	marks := New[struct{}]()
	marks.Accept(api.Vote[struct{}]{Slot: 1, Ballot: 2})
	if got, ok := marks.Promise(2, 1); !ok || !slices.Equal(got, []api.Vote[struct{}]{{Slot: 1, Ballot: 2}}) {
		t.Errorf("nothing: %v, %v", got, ok)
	}
	mixed := New[any]()
	mixed.Accept(api.Vote[any]{Slot: 0, Value: []int{1}})
	mixed.Accept(api.Vote[any]{Slot: 1, Value: nil})
	mixed.Accept(api.Vote[any]{Slot: 1, Value: "text"})
	if got := mixed.Votes(); len(got) != 2 || got[1].Value != "text" {
		t.Errorf("any: %v", got)
	}
}

// P11.4: lists of votes are new memory, of each answer by itself, the spare room too.
func TestListsAreNew(t *testing.T) {
	want := []api.Vote[string]{vote(0, 1, "a"), vote(1, 1, "b"), vote(2, 1, "c")}
	v := took(t, want...)
	ask := func() [][]api.Vote[string] {
		told, _ := v.Promise(1, 0)
		again, _ := v.Promise(1, 0)
		return [][]api.Vote[string]{v.Votes(), told, again, v.Votes()}
	}
	for i := range ask() {
		lists := ask()
		spoiled := lists[i]
		clear(spoiled[:cap(spoiled)])
		for k, list := range lists {
			if k != i && !slices.Equal(list, want) {
				t.Errorf("list %d shares memory with list %d: %v", k, i, list)
			}
		}
		stands(t, v, 1, want...)
	}
	lists := ask()
	takes(t, v, vote(1, 2, "new"), true)
	takes(t, v, vote(3, 2, "more"), true)
	for k, list := range lists {
		if !slices.Equal(list, want) {
			t.Errorf("list %d goes on with the voter: %v", k, list)
		}
	}
}
