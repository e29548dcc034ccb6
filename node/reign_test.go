package node

import (
	"math"
	"slices"
	"testing"

	"argosy/api"
	"argosy/order"
)

// asked gives the only ballot for which a node has been asked since, and the place from which on.
func (o *others) asked(node, group int) (uint64, int) {
	o.t.Helper()
	all := o.told(node)
	if len(all) != 1 || all[0].Kind != api.MsgAsk || all[0].Group != group {
		o.t.Fatalf("told to %d: %v", node, all)
	}
	return all[0].Ballot, all[0].Slot
}

// reigns lets the node lead a log, of which the others have taken nothing, and gives its ballot.
func (o *others) reigns(group int) uint64 {
	o.t.Helper()
	begins(o.t, o.n, group)
	o.hear()
	ballot := o.n.logs[group].reign.ballot
	for _, node := range o.n.logs[group].members {
		if node != o.me && !o.n.Leads(group) {
			o.say(promise(node, group, ballot))
		}
	}
	leads(o.t, o.n, group, true)
	o.forget()
	return ballot
}

// P23.5: ErrStep, if there is no such log, or the node isn't a member.
func TestLeadNoLog(t *testing.T) {
	for me := range 6 {
		n := opened(t, votersDisk(t), me, 2, 3)
		for _, group := range []int{math.MinInt, -1, 0, 1, 2, 3, 4, math.MaxInt} {
			want := api.ErrStep
			if group == me/3 || group == 2 {
				want = api.OK
			}
			wants(t, "Lead", n.Lead(group), want)
			leads(t, n, group, false)
		}
	}
}

// P23.5: all members are asked, with the first place that isn't known, and again with each Tick; by more than half of the promises the node leads.
func TestLead(t *testing.T) {
	_, n, o := played(t, 1, 2, 3)
	o.say(chosen(4, 0, 0, "x"), chosen(4, 0, 1, "y"), chosen(4, 0, 3, "z"))
	o.forget()
	begins(t, n, 0)
	ballot, slot := o.asked(0, 0)
	same(t, "Slot", slot, 2)
	o.hears([]int{2}, ask(1, 0, ballot, 2))
	o.silent()
	same(t, "Promised", n.keeper.Promised(0), ballot)
	o.say(chosen(4, 0, 2, "w"))
	for range 3 {
		n.Tick()
		o.hear()
		for _, node := range []int{0, 2} {
			same(t, "again", only(o.heard[node], api.MsgAsk), []api.Message{{Kind: api.MsgAsk, From: 1, To: node, Group: 0, Slot: 2, Ballot: ballot}})
		}
		for _, node := range []int{3, 4, 5} {
			same(t, "others", only(o.heard[node], api.MsgAsk), []api.Message{})
		}
		o.forget()
	}
	leads(t, n, 0, false)
	// Words of another log, of another ballot, and of who isn't a member don't count.
	o.say(promise(0, 2, ballot), promise(0, 0, ballot-1), promise(3, 0, ballot), promise(0, 1, ballot))
	leads(t, n, 0, false)
	o.say(promise(2, 0, ballot))
	leads(t, n, 0, true)
	leads(t, n, 2, false)
	o.silent()
	n.Tick()
	o.hear()
	for node := range 6 {
		same(t, "asked", only(o.heard[node], api.MsgAsk), []api.Message{})
	}
}

// P23.5: the node's own promise, and each other node's, counts once; of six nodes four are enough.
func TestEnough(t *testing.T) {
	_, n, o := played(t, 5, 2, 3)
	begins(t, n, 2)
	ballot, slot := o.asked(0, 2)
	same(t, "Slot", slot, 0)
	o.hears([]int{1, 2, 3, 4}, ask(5, 2, ballot, 0))
	for _, node := range []int{1, 1, 0, 0, 1} {
		leads(t, n, 2, false)
		o.say(promise(node, 2, ballot))
	}
	leads(t, n, 2, false)
	o.say(promise(4, 2, ballot))
	leads(t, n, 2, true)
}

// P23.5: a ballot is above all that were seen in its log, and no two nodes have the same.
func TestBallots(t *testing.T) {
	users := map[uint64]int{}
	for me := range 6 {
		_, n, o := played(t, me, 2, 3)
		other := (me + 1) % 3
		if me >= 3 {
			other += 3
		}
		own := me / 3
		for _, seen := range []uint64{0, 1, 5, 6, 7, 100, 101, 1 << 40, math.MaxInt64} {
			for i, m := range []api.Message{
				higher(other, own, seen), ask(other, own, seen, 0), take(other, own, seen, 0, "x"), promise(other, own, seen), took(other, own, seen, 0), higher(me, own, 0),
			} {
				if m.From == me {
					continue
				}
				m.Ballot += uint64(i)
				if m.Ballot > math.MaxInt64 {
					m.Ballot = math.MaxInt64
				}
				o.say(m)
				o.forget()
				begins(t, n, own)
				ballot, _ := o.asked(other, own)
				if ballot <= m.Ballot {
					t.Errorf("%d is asked for, %d was seen", ballot, m.Ballot)
				}
				if user, again := users[ballot]; again && user != me {
					t.Errorf("%d and %d use %d", user, me, ballot)
				}
				users[ballot] = me
			}
		}
	}
}

// P23.5: a ballot that was seen in one log is none of the other one.
func TestBallotsByLogs(t *testing.T) {
	_, n, o := played(t, 0, 1, 3)
	o.say(higher(1, 0, 1000), higher(2, 0, 5), ask(2, 0, 6, 0), higher(2, 1, 5))
	o.forget()
	begins(t, n, 1)
	if ballot, _ := o.asked(1, 1); ballot > 100 {
		t.Errorf("ballot %d", ballot)
	}
	o.forget()
	begins(t, n, 0)
	if ballot, _ := o.asked(2, 0); ballot <= 1000 {
		t.Errorf("ballot %d", ballot)
	}
}

// P23.5: a ballot isn't used again, in a later life of the disk either, also of that whose power ended behind.
func TestNoBallotAgain(t *testing.T) {
	d := votersDisk(t)
	last := uint64(0)
	for life := range 12 {
		n := opened(t, d, 0, 1, 3)
		o := play(t, n, 0, 3)
		for range 3 {
			begins(t, n, 1)
			ballot, _ := o.asked(1, 1)
			if ballot <= last {
				t.Fatalf("life %d: ballot %d behind %d", life, ballot, last)
			}
			last = ballot
		}
		d = d.Crash([]int{life, life})
	}
}

// P23.5: if its own promise fails, the node doesn't reign, and asks nobody.
func TestOwnPromise(t *testing.T) {
	for limit := range 3 {
		d, n, o := played(t, 0, 1, 3)
		d.Limit(limit)
		want := api.ErrDown
		if limit == 2 {
			want = api.OK
		}
		wants(t, "Lead", n.Lead(0), want)
		same(t, "Down", n.Down(), want != api.OK)
		if want != api.OK {
			o.silent()
			leads(t, n, 0, false)
			continue
		}
		ballot, _ := o.asked(1, 0)
		again := opened(t, d.Crash(nil), 0, 1, 3)
		same(t, "Promised", again.keeper.Promised(0), ballot)
	}
	d, n, o := played(t, 0, 1, 3)
	ballot := o.reigns(0)
	wants(t, "Append", d.Append("stone", make([]byte, api.MaxRoom-d.Used())), api.OK)
	wants(t, "Lead", n.Lead(0), api.ErrFull)
	n.Tick()
	o.hear()
	same(t, "asked", only(o.told(1), api.MsgAsk), []api.Message{})
	wants(t, "Remove", d.Remove("stone"), api.OK)
	begins(t, n, 0)
	if next := n.logs[0].reign.ballot; next <= ballot {
		t.Errorf("ballot %d behind %d", next, ballot)
	}
}

// P23.5: above the greatest number there is no ballot.
func TestNoBallot(t *testing.T) {
	for _, seen := range []uint64{math.MaxUint64, math.MaxUint64 - 1} {
		_, n, o := played(t, 2, 1, 3)
		o.say(higher(0, 0, seen))
		wants(t, "Lead", n.Lead(0), api.ErrOver)
		leads(t, n, 0, false)
		o.silent()
	}
	_, n, o := played(t, 2, 1, 3)
	o.say(higher(0, 0, math.MaxUint64-6))
	begins(t, n, 0)
	ballot, _ := o.asked(0, 0)
	same(t, "ballot", ballot > math.MaxUint64-6, true)
}

// P23.5: what promises told of is told to all members first, place by place, each again with each Tick, until it is chosen; that is told to all nodes.
func TestVotesFirst(t *testing.T) {
	_, n, o := played(t, 1, 2, 3)
	o.say(take(0, 0, 3, 0, "a"), take(0, 0, 5, 1, "b"))
	o.forget()
	begins(t, n, 0)
	ballot, _ := o.asked(2, 0)
	o.forget()
	o.say(promise(2, 0, ballot, vote(1, 4, "c"), vote(2, 4, "d"), vote(3, 6, "")))
	for slot, value := range []string{"a", "b", "d", ""} {
		o.hears([]int{0, 2}, take(1, 0, ballot, slot, value))
		o.silent()
		n.Tick()
		o.hear()
		for node := range 6 {
			got := only(o.told(node), api.MsgTake)
			if node == 0 || node == 2 {
				same(t, "again", got, []api.Message{{Kind: api.MsgTake, From: 1, To: node, Ballot: ballot, Slot: slot, Value: value}})
			} else {
				same(t, "others", got, []api.Message{})
			}
		}
		same(t, "Chosen", len(n.Chosen(0)), slot)
		// Words of another place, ballot, log, and of who isn't a member don't count.
		o.say(took(2, 0, ballot, slot+1), took(2, 0, ballot-1, slot), took(2, 2, ballot, slot), took(3, 0, ballot, slot))
		same(t, "Chosen", len(n.Chosen(0)), slot)
		o.silent()
		o.say(took(2, 0, ballot, slot))
		same(t, "Chosen", n.Chosen(0), []string{"a", "b", "d", ""}[:slot+1])
		for _, node := range []int{3, 4, 5} {
			o.hears([]int{node}, chosen(1, 0, slot, value))
		}
		for _, node := range []int{0, 2} {
			all := o.told(node)
			same(t, "Chosen", all[0], api.Message{Kind: api.MsgChosen, From: 1, To: node, Slot: slot, Value: value})
			o.heard[node] = all[1:]
		}
	}
	o.silent()
	leads(t, n, 0, true)
}

// P23.5: the node tells itself, too: its own vote lasts, and is one of those that are enough.
func TestOwnVote(t *testing.T) {
	d, n, o := played(t, 0, 1, 3)
	ballot := o.reigns(1)
	move := bytesOf(t, orderOf(t, 1, tagOf(1, 1), moving("a", 0)))
	o.say(telling(1, 1, move))
	o.hears([]int{1, 2}, take(0, 1, ballot, 0, move))
	again := opened(t, d.Crash(nil), 0, 1, 3)
	votes, _, _ := again.keeper.Promise(1, 1<<40, 0)
	same(t, "votes", votes, []api.Vote[string]{vote(0, ballot, move)})
	o.say(took(2, 1, ballot, 0))
	same(t, "Chosen", n.Chosen(1), []string{move})
	o.hears([]int{1, 2}, chosen(0, 1, 0, move))
	o.say(took(1, 1, ballot, 0))
	o.silent()
}

// P23.5: without its own vote, as its disk is full, two others are enough.
func TestOwnVoteFails(t *testing.T) {
	d, n, o := played(t, 0, 1, 3)
	ballot := o.reigns(1)
	move := bytesOf(t, orderOf(t, 1, tagOf(1, 1), moving("a", 0)))
	wants(t, "Append", d.Append("stone", make([]byte, api.MaxRoom-d.Used())), api.OK)
	o.say(telling(1, 1, move))
	o.hears([]int{1, 2}, take(0, 1, ballot, 0, move))
	o.say(took(2, 1, ballot, 0), took(2, 1, ballot, 0))
	same(t, "Chosen", n.Chosen(1), []string{})
	o.say(took(1, 1, ballot, 0))
	same(t, "Chosen", n.Chosen(1), []string{move})
}

// P23.5: a reign ends when a greater ballot is seen in its log, by whichever message of a member, and by no lesser one.
func TestReignEnds(t *testing.T) {
	for _, leading := range []bool{false, true} {
		for i, ends := range []func(ballot uint64) api.Message{
			func(b uint64) api.Message { return higher(0, 0, b) },
			func(b uint64) api.Message { return ask(2, 0, b, 0) },
			func(b uint64) api.Message { return take(0, 0, b, 5, "x") },
			func(b uint64) api.Message { return take(0, 0, b, 64, "x") },
		} {
			_, n, o := played(t, 1, 2, 3)
			begins(t, n, 0)
			ballot, _ := o.asked(0, 0)
			if leading {
				o.say(promise(0, 0, ballot))
			}
			o.say(ends(ballot-1), ends(ballot), higher(3, 0, ballot+1), ask(3, 0, ballot+1, 0), higher(0, 2, ballot+1), ask(0, 1, ballot+1, 0))
			leads(t, n, 0, leading)
			o.forget()
			o.say(ends(ballot + 1))
			leads(t, n, 0, false)
			o.forget()
			n.Tick()
			o.say(promise(0, 0, ballot), promise(2, 0, ballot))
			o.hear()
			same(t, "asked", slices.Concat(only(o.heard[0], api.MsgAsk), only(o.heard[2], api.MsgTake)), []api.Message{})
			leads(t, n, 0, false)
			begins(t, n, 0)
			if next := n.logs[0].reign.ballot; next <= ballot+1 {
				t.Errorf("%d: ballot %d behind %d", i, next, ballot+1)
			}
		}
	}
}

// P23.5: the reigns of both logs are by themselves; a new one of a log ends the elder one.
func TestReigns(t *testing.T) {
	_, n, o := played(t, 1, 2, 3)
	elder := o.reigns(0)
	global := o.reigns(2)
	leads(t, n, 0, true)
	begins(t, n, 0)
	ballot, _ := o.asked(0, 0)
	leads(t, n, 0, false)
	leads(t, n, 2, true)
	o.say(promise(2, 0, elder), promise(0, 0, elder), promise(2, 0, global))
	leads(t, n, 0, false)
	o.say(promise(2, 0, ballot))
	leads(t, n, 0, true)
	o.say(higher(5, 2, global+1))
	leads(t, n, 0, true)
	leads(t, n, 2, false)
}

// P23.5, P23.10: a place that others told meanwhile is chosen by the reign, too, and what comes behind it is told at once.
func TestKnownMeanwhile(t *testing.T) {
	_, n, o := played(t, 1, 1, 3)
	one, two := orderOf(t, 1, tagOf(2, 1), reading("a")), orderOf(t, 1, tagOf(2, 2), reading("b"))
	begins(t, n, 0)
	ballot, _ := o.asked(0, 0)
	o.forget()
	o.say(chosen(0, 0, 0, run(t, one)), promise(2, 0, ballot, vote(0, 1, run(t, one))))
	o.hears([]int{0, 2}, take(1, 0, ballot, 0, run(t, one)))
	o.say(telling(2, 0, bytesOf(t, one)), telling(2, 0, bytesOf(t, two)))
	o.silent()
	o.choose(0, ballot, 0, run(t, one))
	o.underWay(0, ballot, 1, run(t, two))
	o.silent()
}

// P23.5: a whole log can be led, too: nothing is under way there.
func TestLeadWholeLog(t *testing.T) {
	_, n, o := played(t, 1, 1, 3)
	for slot := range 64 {
		o.say(chosen(0, 0, slot, "x"))
	}
	begins(t, n, 0)
	ballot, slot := o.asked(0, 0)
	same(t, "Slot", slot, 64)
	o.forget()
	o.say(promise(0, 0, ballot))
	leads(t, n, 0, true)
	o.silent()
	n.Tick()
	o.hears([]int{0, 2}, need(1, 1, 0))
}

// P23.5: once a single node has promised itself, it leads, and what it had taken in an elder life is chosen once more.
func TestAloneAgain(t *testing.T) {
	d, n := alone(t)
	submits(t, n, writing("x", "a"))
	submits(t, n, moving("b", 0))
	submits(t, n, reading("a", "b"))
	n.Tick()
	logs := [][]string{n.Chosen(0), n.Chosen(1)}
	same(t, "entries", []int{len(logs[0]), len(logs[1])}, []int{3, 1})
	again := opened(t, d.Crash(nil), 0, 1, 1)
	same(t, "Pick", again.Pick(0), false)
	begins(t, again, 0)
	begins(t, again, 1)
	same(t, "logs", [][]string{again.Chosen(0), again.Chosen(1)}, logs)
	i, err := order.ReadItem([]byte(logs[0][2]))
	wants(t, "ReadItem", err, api.OK)
	same(t, "kind", i.Kind, api.ItRun)
	same(t, "picked", picks(again), 3)
}
