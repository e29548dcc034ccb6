package node

import (
	"math"
	"testing"

	"argosy/api"
)

// P23.2, P23.7: Chosen is what is known from the first place on, without a gap; of a place the first word counts.
func TestChosen(t *testing.T) {
	_, n, o := played(t, 1, 2, 3)
	for group := range 3 {
		o.say(chosen(5, group, 1, "b"), chosen(0, group, 3, "d"), chosen(5, group, 64, "z"))
		same(t, "Chosen", n.Chosen(group), []string{})
		o.say(chosen(5, group, 0, "a"))
		same(t, "Chosen", n.Chosen(group), []string{"a", "b"})
		o.say(chosen(3, group, 0, "x"), chosen(3, group, 2, ""), chosen(3, group, 63, "z"))
		same(t, "Chosen", n.Chosen(group), []string{"a", "b", "", "d"})
	}
	for _, group := range []int{math.MinInt, -1, 3, 4, math.MaxInt} {
		same(t, "Chosen", n.Chosen(group), []string{})
		leads(t, n, group, false)
	}
	o.silent()
}

// P23.7: with each Tick the members of each log are asked for what is chosen from the first place on that isn't known.
func TestNeed(t *testing.T) {
	_, n, o := played(t, 1, 2, 3)
	o.say(chosen(5, 0, 0, "a"), chosen(5, 0, 1, "b"), chosen(5, 0, 3, "d"), chosen(0, 2, 1, "x"))
	o.silent()
	for range 3 {
		n.Tick()
		o.hears([]int{0, 2}, need(1, 0, 2), need(1, 2, 0))
		o.hears([]int{3, 4, 5}, need(1, 1, 0), need(1, 2, 0))
	}
	o.say(chosen(5, 0, 2, "c"), chosen(5, 1, 0, "c"))
	n.Tick()
	o.hears([]int{0, 2}, need(1, 0, 4), need(1, 2, 0))
	o.hears([]int{3, 4, 5}, need(1, 1, 1), need(1, 2, 0))
	// Of a log that is known as a whole there is nothing to ask.
	for slot := range 64 {
		o.say(chosen(5, 2, slot, "x"))
	}
	n.Tick()
	o.hears([]int{0, 2}, need(1, 0, 4))
	o.hears([]int{3, 4, 5}, need(1, 1, 1))
}

// P23.7: MsgNeed is answered by MsgChosen of four places at most, from the one that is asked for on, without a gap.
func TestNeedAnswer(t *testing.T) {
	_, _, o := played(t, 1, 2, 3)
	values := []string{"a", "b", "", "d", "e", "f", "g"}
	for group := range 3 {
		for slot, value := range values {
			o.say(chosen(0, group, slot, value))
		}
		o.say(chosen(0, group, 8, "i"), chosen(0, group, 63, "z"))
		for slot := range 65 {
			var want []api.Message
			for k := slot; k < min(slot+4, len(values)); k++ {
				want = append(want, chosen(1, group, k, values[k]))
			}
			if slot == 8 {
				want = []api.Message{chosen(1, group, 8, "i")}
			}
			if slot == 63 {
				want = []api.Message{chosen(1, group, 63, "z")}
			}
			from := []int{0, 2, 5}[slot%3]
			o.say(need(from, group, slot))
			o.hears([]int{from}, want...)
			o.silent()
		}
	}
}

// P23.7: a node learns a log from others, four places with each Tick, whoever has led it.
func TestLearnsAll(t *testing.T) {
	_, teacher, _ := played(t, 0, 1, 3)
	o := play(t, teacher, 0, 3)
	for slot := range 64 {
		o.say(chosen(1, 0, slot, string(rune('a'+slot%26))))
	}
	o.forget()
	late := opened(t, votersDisk(t), 2, 1, 3)
	nodes := []*Node{teacher, nil, late}
	for round := range 16 {
		if got := len(late.Chosen(0)); got != 4*round {
			t.Fatalf("round %d: %d", round, got)
		}
		late.Tick()
		deliver(nodes, late, teacher)
	}
	same(t, "Chosen", late.Chosen(0), teacher.Chosen(0))
}

// deliver lets parcels between nodes come, until there are no more; those to others are lost.
func deliver(nodes []*Node, among ...*Node) {
	for more := true; more; {
		more = false
		for _, n := range among {
			for _, p := range n.Out() {
				if nodes[p.To] != nil {
					nodes[p.To].Take(p)
					more = true
				}
			}
		}
	}
}
