package learn

import (
	"math"
	"slices"
	"testing"

	"argosy/api"
)

// P13.4: a value is kept as it is handed in, and so it is answered: what it shares with its giver stays shared.
func TestValuesAreKept(t *testing.T) {
	list := []int{1, 2, 3}
	c := New[[]int]()
	c.Learn(0, list)
	list[0] = 9
	got, _ := c.Get(0)
	same := &got[0] == &list[0] && &c.From(0, 1)[0][0] == &list[0]
	for _, value := range c.All() {
		same = same && &value[0] == &list[0]
	}
	if !same {
		t.Error("a list was copied")
	}
}

// P13.4: values that can't be compared, that aren't equal to themselves, that are nothing, or that take no room.
func TestValuesOfAnyType(t *testing.T) {
	calls := New[func() int]()
	for i := range 3 {
		calls.Learn(i, func() int { return i })
	}
	for i, call := range calls.All() {
		if call() != i {
			t.Errorf("call %d: %d", i, call())
		}
	}
	floats := New[float64]()
	if !floats.Learn(0, math.NaN()) || floats.Learn(0, math.NaN()) {
		t.Error("no number")
	}
	pointers := New[*api.Order]()
	if !pointers.Learn(0, nil) || pointers.Learn(0, &api.Order{}) {
		t.Error("no order")
	}
	if got, ok := pointers.Get(0); got != nil || !ok || pointers.Len() != 1 || len(pointers.From(0, 2)) != 1 {
		t.Errorf("no order: %v, %v", got, ok)
	}
	marks := New[struct{}]()
	marks.Learn(63, struct{}{})
	if _, ok := marks.Get(63); !ok || marks.Len() != 0 || len(marks.From(63, 9)) != 1 {
		t.Error("nothing")
	}
	mixed := New[any]()
	mixed.Learn(1, []int{1})
	mixed.Learn(0, "text")
	if got := mixed.From(0, 9); len(got) != 2 || got[0] != "text" {
		t.Errorf("any: %v", got)
	}
}

// P13.4: lists are new memory, of each answer by itself, the spare room too.
func TestListsAreNew(t *testing.T) {
	c := knows(t, 0, 1, 2, 3, 4)
	ask := func() [][]string {
		return [][]string{c.From(0, 5), c.From(0, 9), c.From(0, 2), c.From(2, 3), c.From(0, 5)}
	}
	for i := range ask() {
		lists := ask()
		spoiled := lists[i]
		clear(spoiled[:cap(spoiled)])
		for k, list := range lists {
			if want := ask()[k]; k != i && !slices.Equal(list, want) {
				t.Errorf("list %d shares memory with list %d: %v", k, i, list)
			}
		}
		holds(t, c, []int{0, 1, 2, 3, 4})
	}
	lists := ask()
	learns(t, c, 5, "5", true)
	learns(t, c, 6, "6", true)
	if !slices.Equal(lists[1], row(0, 5)) {
		t.Errorf("a list goes on: %v", lists[1])
	}
}

// P1: calls of any arguments end.
func TestAnyArguments(t *testing.T) {
	numbers := []int{math.MinInt, -1, 0, 1, 62, 63, 64, math.MaxInt}
	for _, known := range [][]int{nil, {0}, {63}, {0, 1, 62, 63}} {
		for _, a := range numbers {
			for _, b := range numbers {
				c := knows(t, known...)
				c.From(a, b)
				c.Learn(a, "x")
				c.Learn(b, "y")
				c.Get(a)
				c.From(b, a)
				if c.Len() != len(told(t, c)) {
					t.Errorf("Len %d", c.Len())
				}
			}
		}
	}
}

// P2: what is answered hangs on what was learned, not on its order.
func TestSameAnswers(t *testing.T) {
	a, b := knows(t, 0, 1, 2, 40, 41), knows(t, 41, 2, 0, 40, 1)
	for slot := range 64 {
		for most := range 5 {
			if x, y := a.From(slot, most), b.From(slot, most); !slices.Equal(x, y) || !slices.Equal(x, a.From(slot, most)) {
				t.Errorf("From(%d, %d): %v, %v", slot, most, x, y)
			}
		}
	}
	if a.Len() != b.Len() || !slices.Equal(told(t, a), told(t, b)) {
		t.Error("two that know the same differ")
	}
}

// What is known to one isn't known to another one.
func TestChosenAreApart(t *testing.T) {
	a, b := knows(t, 0, 1), knows(t, 0)
	learns(t, b, 2, "2", true)
	holds(t, a, []int{0, 1})
	holds(t, b, []int{0, 2})
}
