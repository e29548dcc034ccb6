package learn

import (
	"math"
	"slices"
	"strconv"
	"testing"
)

// knows gives a Chosen that knows these places, each with its number as its value.
func knows(t *testing.T, slots ...int) *Chosen[string] {
	t.Helper()
	c := New[string]()
	for _, slot := range slots {
		learns(t, c, slot, strconv.Itoa(slot), true)
	}
	return c
}

func learns(t *testing.T, c *Chosen[string], slot int, value string, want bool) {
	t.Helper()
	if got := c.Learn(slot, value); got != want {
		t.Errorf("Learn of %d, %q: %v, want %v", slot, value, got, want)
	}
}

func gets(t *testing.T, c *Chosen[string], slot int, want string, known bool) {
	t.Helper()
	if value, ok := c.Get(slot); value != want || ok != known {
		t.Errorf("Get of %d: %q, %v, want %q, %v", slot, value, ok, want, known)
	}
}

// row gives the values of places from one on, ahead of another one.
func row(from, end int) []string {
	var values []string
	for slot := from; slot < end; slot++ {
		values = append(values, strconv.Itoa(slot))
	}
	return values
}

// gap gives the first place from one on that isn't among some.
func gap(slots []int, from int) int {
	for slices.Contains(slots, from) {
		from++
	}
	return from
}

// holds fails, unless just these places are known, by each of the calls that tell it.
func holds(t *testing.T, c *Chosen[string], slots []int) {
	t.Helper()
	for slot := -2; slot < 67; slot++ {
		if slices.Contains(slots, slot) {
			gets(t, c, slot, strconv.Itoa(slot), true)
		} else {
			gets(t, c, slot, "", false)
		}
		end := gap(slots, slot)
		for _, most := range []int{math.MinInt, -1, 0, 1, 2, 3, 4, 63, 64, 65, math.MaxInt} {
			last := min(end, slot+min(max(most, 0), 100))
			if got := c.From(slot, most); !slices.Equal(got, row(slot, last)) {
				t.Fatalf("%v: From(%d, %d): %v, want %v", slots, slot, most, got, row(slot, last))
			}
		}
	}
	if want := gap(slots, 0); c.Len() != want {
		t.Fatalf("%v: Len %d, want %d", slots, c.Len(), want)
	}
	if got := told(t, c); !slices.Equal(got, row(0, gap(slots, 0))) {
		t.Fatalf("%v: All: %v", slots, got)
	}
}

// told gives the values that All tells, at places from 0 on.
func told(t *testing.T, c *Chosen[string]) []string {
	t.Helper()
	var values []string
	for slot, value := range c.All() {
		if slot != len(values) {
			t.Fatalf("All: %d behind %v", slot, values)
		}
		values = append(values, value)
	}
	return values
}

// P13.1 to P13.3
func TestNew(t *testing.T) {
	holds(t, New[string](), nil)
}

// The chapter's example.
func TestExample(t *testing.T) {
	c := knows(t, 1, 0, 3)
	if c.Len() != 2 || !slices.Equal(c.From(1, 5), []string{"1"}) {
		t.Errorf("Len %d, From(1, 5): %v", c.Len(), c.From(1, 5))
	}
	holds(t, c, []int{0, 1, 3})
}

// P13.1 to P13.3: all choices of few places at the beginning of a log, alone or with all behind them, and at its end, alone or with all ahead of them.
func TestAllChoices(t *testing.T) {
	const few = 5
	for choice := range 1 << few {
		for _, at := range []int{0, 64 - few} {
			var slots, others []int
			for slot := range 64 {
				switch bit := slot - at; {
				case bit < 0 || bit >= few:
					others = append(others, slot)
				case choice>>bit&1 == 1:
					slots = append(slots, slot)
				}
			}
			holds(t, knows(t, slots...), slots)
			slices.Reverse(slots)
			all := slices.Concat(slots, others)
			holds(t, knows(t, all...), all)
		}
	}
}

// P13.1, P13.2: as one place after the other comes, in several orders.
func TestOneAfterTheOther(t *testing.T) {
	for _, factor := range []int{1, 63, 37, 5} {
		c := New[string]()
		var slots []int
		for i := range 64 {
			slot := (i*factor + factor - 1) % 64
			learns(t, c, slot, strconv.Itoa(slot), true)
			slots = append(slots, slot)
			holds(t, c, slots)
		}
		if c.Len() != 64 {
			t.Errorf("a whole log: Len %d", c.Len())
		}
	}
}

// P13.1: what is known stays as it is, whatever comes, an empty value, too.
func TestLearnAgain(t *testing.T) {
	c := New[string]()
	learns(t, c, 0, "a", true)
	learns(t, c, 2, "", true)
	for _, value := range []string{"a", "", "b"} {
		learns(t, c, 0, value, false)
		learns(t, c, 2, value, false)
		gets(t, c, 0, "a", true)
		gets(t, c, 2, "", true)
	}
	learns(t, c, 1, "m", true)
	if got := c.From(0, 9); !slices.Equal(got, []string{"a", "m", ""}) || c.Len() != 3 {
		t.Errorf("From: %q, Len %d", got, c.Len())
	}
}

// P13.1: what is no place is never known.
func TestNoPlace(t *testing.T) {
	for _, slots := range [][]int{nil, {0, 63}} {
		c := knows(t, slots...)
		for _, slot := range []int{math.MinInt, -64, -1, 64, 65, 128, 1 << 32, math.MaxInt} {
			learns(t, c, slot, "x", false)
			gets(t, c, slot, "", false)
			for _, most := range []int{-1, 0, 1, math.MaxInt} {
				if got := c.From(slot, most); len(got) != 0 {
					t.Errorf("From(%d, %d): %v", slot, most, got)
				}
			}
			holds(t, c, slots)
		}
	}
}

// P13.3: All ends when the loop does, wherever that is, and may be ranged over again.
func TestAllEnds(t *testing.T) {
	c := knows(t, 0, 1, 2, 3, 5)
	all := c.All()
	for last := range 5 {
		var slots []int
		for slot, value := range all {
			if value != strconv.Itoa(slot) {
				t.Errorf("%d: %q", slot, value)
			}
			slots = append(slots, slot)
			if slot == last {
				break
			}
		}
		if want := []int{0, 1, 2, 3}[:min(last+1, 4)]; !slices.Equal(slots, want) {
			t.Errorf("up to %d: %v", last, slots)
		}
	}
	pairs := 0
	for range all {
		for range all {
			pairs++
		}
	}
	if pairs != 16 {
		t.Errorf("a loop in a loop: %d", pairs)
	}
}

// P13.3, P1: a loop that learns ends, and is told of no place behind one that isn't known.
func TestLoopThatLearns(t *testing.T) {
	c := knows(t, 0, 1, 3)
	next := 0
	for slot, value := range c.All() {
		if slot != next || value != strconv.Itoa(slot) {
			t.Fatalf("%d, %q behind %d places", slot, value, next)
		}
		next++
		c.Learn(63-slot, strconv.Itoa(63-slot))
		c.Learn(slot, "other")
		if slot == 1 {
			c.Learn(4, "4")
		}
	}
	if next != 2 {
		t.Errorf("%d places", next)
	}
	for slot := range c.All() {
		c.Learn(slot+1, strconv.Itoa(slot+1))
	}
	if got := told(t, c); !slices.Equal(got, row(0, c.Len())) {
		t.Errorf("All: %v", got)
	}
}
