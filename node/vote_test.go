package node

import (
	"strings"
	"testing"

	"argosy/api"
	"argosy/disk"
)

// P23.4: a member's MsgAsk is answered by MsgPromise, with the votes from Slot on, or by MsgHigher.
func TestAsk(t *testing.T) {
	_, _, o := played(t, 1, 2, 3)
	for _, group := range []int{0, 2} {
		o.say(ask(0, group, 7, 0))
		o.hears([]int{0}, promise(0, group, 7))
		o.say(ask(2, group, 6, 0), ask(2, group, 7, 0), ask(2, group, 8, 64))
		o.hears([]int{2}, higher(0, group, 7), promise(0, group, 7), promise(0, group, 8))
		o.say(take(0, group, 9, 0, "x"), take(0, group, 9, 2, "y"), take(2, group, 11, 63, ""))
		o.hears([]int{0}, took(0, group, 9, 0), took(0, group, 9, 2))
		o.hears([]int{2}, took(0, group, 11, 63))
		o.say(ask(2, group, 10, 0), ask(2, group, 11, 0), ask(2, group, 12, 1), ask(2, group, 13, 63), ask(2, group, 14, 64))
		x, y, z := vote(0, 9, "x"), vote(2, 9, "y"), vote(63, 11, "")
		o.hears([]int{2}, higher(0, group, 11), promise(0, group, 11, x, y, z), promise(0, group, 12, y, z), promise(0, group, 13, z), promise(0, group, 14))
		o.silent()
	}
}

// P23.4: a member's MsgTake is answered by MsgTook, with the Slot, or by MsgHigher.
func TestTake(t *testing.T) {
	_, _, o := played(t, 1, 2, 3)
	for _, group := range []int{0, 2} {
		o.say(take(0, group, 7, 3, "x"))
		o.hears([]int{0}, took(0, group, 7, 3))
		o.say(take(2, group, 6, 3, "y"), take(2, group, 7, 63, "y"), take(2, group, 8, 3, "z"), take(2, group, 8, 3, "z"))
		o.hears([]int{2}, higher(0, group, 7), took(0, group, 7, 63), took(0, group, 8, 3), took(0, group, 8, 3))
		o.say(ask(0, group, 9, 0))
		o.hears([]int{0}, promise(0, group, 9, vote(3, 8, "z"), vote(63, 7, "y")))
		// The place 64 is none, and layer 22 takes no value of more than 4000 bytes: neither is an error of the disk.
		o.say(take(0, group, 9, 64, "x"), take(0, group, 10, 0, strings.Repeat("v", 4001)), take(0, group, 11, 0, strings.Repeat("v", 4000)))
		o.hears([]int{0}, higher(0, group, 9), higher(0, group, 9), took(0, group, 11, 0))
		o.silent()
	}
}

// P23.4: who isn't a member isn't answered, and doesn't answer.
func TestNoMember(t *testing.T) {
	_, n, o := played(t, 1, 2, 3)
	for from := 2; from < 6; from++ {
		o.say(ask(from, 1, 7, 0), take(from, 1, 7, 0, "x"), ask(from, 3, 7, 0), take(from, 3, 7, 0, "x"))
		o.silent()
	}
	for from := 3; from < 6; from++ {
		o.say(ask(from, 0, 7, 0), take(from, 0, 7, 0, "x"))
		o.silent()
		o.say(ask(from, 2, 7, 0), take(from, 2, 7, from, "x"))
		o.forget()
	}
	same(t, "Promised", n.keeper.Promised(0), uint64(0))
	o.say(ask(5, 2, 8, 0))
	o.hears([]int{5}, promise(5, 2, 8, vote(3, 7, "x"), vote(4, 7, "x"), vote(5, 7, "x")))
}

// P23.4: the logs of a node are by themselves.
func TestTwoGroups(t *testing.T) {
	_, _, o := played(t, 4, 2, 3)
	o.say(ask(3, 1, 9, 0), take(3, 1, 9, 0, "x"))
	o.forget()
	o.say(ask(3, 2, 1, 0), take(3, 2, 1, 0, "y"), ask(3, 1, 10, 0))
	o.hears([]int{3}, promise(3, 2, 1), took(3, 2, 1, 0), promise(3, 1, 10, vote(0, 9, "x")))
}

// P23.4: a node that has been wiped answers no ballot, and doesn't lead; else it is as any other.
func TestWiped(t *testing.T) {
	n := opened(t, newDisk(t), 1, 1, 3)
	o := play(t, n, 1, 3)
	for group := range 2 {
		wants(t, "Lead", n.Lead(group), api.ErrStep)
		leads(t, n, group, false)
		o.say(ask(0, group, 7, 0), take(0, group, 7, 0, "x"), ask(0, group, 0, 0))
		o.silent()
	}
	entry := run(t, orderOf(t, 1, tagOf(0, 1), writing("x", "a")))
	o.say(chosen(0, 0, 0, entry), need(2, 0, 0))
	o.hears([]int{2}, chosen(0, 0, 0, entry))
	same(t, "Pick", n.Pick(0), true)
	same(t, "Down", n.Down(), false)
}

// P23.4: with an error of the disk there is no answer.
func TestDiskErrors(t *testing.T) {
	d, n, o := played(t, 1, 1, 3)
	o.say(ask(0, 0, 5, 0))
	o.hears([]int{0}, promise(0, 0, 5))
	wants(t, "Append", d.Append("stone", make([]byte, api.MaxRoom-d.Used())), api.OK)
	o.say(ask(0, 0, 6, 0), take(0, 0, 5, 0, "x"), take(0, 0, 4, 0, "x"), ask(0, 0, 4, 0), ask(0, 0, 5, 0))
	o.hears([]int{0}, higher(0, 0, 5), higher(0, 0, 5), promise(0, 0, 5))
	same(t, "Down", n.Down(), false)
	wants(t, "Remove", d.Remove("stone"), api.OK)
	d.Limit(0)
	o.say(ask(0, 0, 4, 0), take(0, 0, 4, 0, "x"))
	o.hears([]int{0}, higher(0, 0, 5), higher(0, 0, 5))
	same(t, "Down", n.Down(), false)
	o.say(take(0, 0, 5, 0, "x"))
	o.silent()
	same(t, "Down", n.Down(), true)
}

// lasts fails, unless what another node has heard of promises, and of what was taken, is there when the power ends now.
func (o *others) lasts(node int, d *disk.Disk) {
	o.t.Helper()
	for _, m := range o.told(node) {
		if m.Kind != api.MsgPromise && m.Kind != api.MsgTook {
			continue
		}
		again := opened(o.t, d.Crash(nil), o.me, 1, 3)
		if again.keeper.Promised(m.Group) < m.Ballot {
			o.t.Fatalf("%v: but %d lasts", m, again.keeper.Promised(m.Group))
		}
		votes, _, _ := again.keeper.Promise(m.Group, 1<<40, m.Slot)
		if m.Kind == api.MsgTook && (len(votes) == 0 || votes[0].Slot != m.Slot || votes[0].Ballot < m.Ballot) {
			o.t.Fatalf("%v: but %v lasts", m, votes)
		}
	}
}

// P23.9: whenever the power ends, what was told by MsgPromise or MsgTook is there in the next life.
func TestToldLasts(t *testing.T) {
	for limit := range 40 {
		d, n, o := played(t, 1, 1, 3)
		d.Limit(limit)
		for i := range uint64(6) {
			for _, m := range []api.Message{
				ask(0, 0, 2*i+1, 0), take(2, 0, 2*i+2, int(i), "x"), take(0, 1, i, int(i), "y"), ask(2, 1, i, int(i)),
			} {
				if n.Down() {
					continue
				}
				o.say(m)
				o.lasts(m.From, d)
			}
		}
		if down := limit < 36; n.Down() != down {
			t.Errorf("limit %d: %v", limit, n.Down())
		}
	}
}

// P23.9: a packet that tells goes out behind what lasts, also ahead of what a later message of the same parcel asks for.
func TestToldLastsAtOnce(t *testing.T) {
	for limit := range 7 {
		d, n, o := played(t, 1, 1, 3)
		o.say(need(0, 0, 0))
		d.Limit(limit)
		for i := range uint64(3) {
			m := take(0, 0, i, int(i), "x")
			m.To = 1
			at := o.links[0]
			wants(t, "Send", at.Send(written(t, m)), api.OK)
		}
		packets := o.links[0].Packets()
		// The first one comes last: it brings all of them.
		for _, k := range []int{2, 1, 0} {
			n.Take(api.Parcel{From: 0, To: 1, Packet: packets[k]})
		}
		same(t, "Down", n.Down(), limit < 6)
		o.hear()
		same(t, "told", len(only(o.heard[0], api.MsgTook)), limit/2)
		o.lasts(0, d)
	}
}
