package world

import (
	"fmt"
	"slices"
	"testing"

	"argosy/api"
)

// In which order all parcels come.
const (
	firstFirst = iota
	lastFirst
	thrownOrder
	orders
)

// comeAll lets all parcels come, those that come meanwhile, too.
func (s *stage) comeAll() {
	s.t.Helper()
	for s.w.Len() > 0 {
		k := 0
		switch s.order {
		case lastFirst:
			k = s.w.Len() - 1
		case thrownOrder:
			k = s.next(s.w.Len())
		}
		wants(s.t, "EvDeliver", s.do(deliver(k)), api.OK)
	}
}

// pickAll lets a node be fed all that it can.
func (s *stage) pickAll(who int) {
	s.t.Helper()
	for more := true; more; {
		more = false
		for region := range s.regions {
			for s.do(pick(who, region)) == api.OK {
				more = true
			}
		}
	}
}

// thrown gives some transaction of few keys.
func (s *stage) thrown() api.Txn {
	keys := []string{"a", "b", "c", "d", "e"}
	if s.next(4) == 0 {
		return moving(keys[s.next(len(keys))], s.next(s.regions))
	}
	t := api.Txn{Kind: api.TxRun}
	for _, key := range keys {
		switch s.next(8) {
		case 0:
			t.Reads = append(t.Reads, key)
			t.Ops = append(t.Ops, api.Op{Kind: api.OpRead, Key: key})
		case 1, 2:
			t.Writes = append(t.Writes, key)
			t.Ops = append(t.Ops, api.Op{Kind: api.OpRead, Key: key}, api.Op{Kind: api.OpAdd, Key: key, N: int64(s.next(100))})
		}
	}
	return t
}

// mayBeWiped tells whether in none of a node's logs a half of the members will ever have been wiped, if it is.
func (s *stage) mayBeWiped(who int) bool {
	for _, group := range []int{who / s.replicas, s.regions} {
		count := 0
		for _, member := range s.members(group) {
			if s.wiped[member] || member == who {
				count++
			}
		}
		if 2*count >= len(s.members(group)) {
			return false
		}
	}
	return true
}

// keeps gives numbers of bytes that are kept.
func (s *stage) keeps() []int {
	var all []int
	for range s.next(api.MaxFiles) {
		all = append(all, s.next(1000))
	}
	return all
}

// step lets one thing happen; few is how many of those that lie next a parcel is one of.
func (s *stage) step(few int) {
	s.t.Helper()
	who := s.next(len(s.crashed))
	parcel := s.next(few)
	switch kind := s.next(100); {
	case kind < 60:
		for range s.next(6) {
			s.do(deliver(parcel))
		}
	case kind < 66:
		s.do(tick(who))
	case kind < 76:
		s.pickAll(who)
	case kind < 80:
		s.do(pick(who, s.next(s.regions)))
	case kind < 86:
		if len(s.w.Subs()) < 40 {
			s.do(submit(who, s.thrown()))
		}
	case kind < 87:
		s.do(lead(who, []int{who / s.replicas, s.regions}[s.next(2)]))
	case kind < 89:
		s.do(check(who))
	case kind < 91:
		s.do(lose(parcel))
	case kind < 93:
		s.do(double(parcel))
	case kind < 94:
		s.do(power(who, s.next(12)))
	case kind < 95:
		s.do(crash(who, s.keeps()...))
	case kind < 96:
		if s.mayBeWiped(who) {
			s.do(wipe(who))
		}
	default:
		if !s.w.Up(who) && !s.crashed[who] {
			s.do(crash(who, s.keeps()...))
		}
		s.do(reopen(who))
	}
}

// allUp lets all nodes be up, on disks whose power doesn't end.
func (s *stage) allUp() {
	s.t.Helper()
	for who := range s.crashed {
		if s.do(power(who, -1)) != api.OK {
			wants(s.t, "EvCrash", s.do(crash(who, s.keeps()...)), api.OK)
			wants(s.t, "EvOpen", s.do(reopen(who)), api.OK)
		}
	}
}

// reign lets a member of a log begin to reign there.
func (s *stage) reign(group int) {
	s.t.Helper()
	members := s.members(group)
	who := members[s.next(len(members))]
	for s.wiped[who] {
		who = members[s.next(len(members))]
	}
	wants(s.t, "EvLead", s.do(lead(who, group)), api.OK)
}

// isLed tells whether a node leads a log.
func (s *stage) isLed(group int) bool {
	return slices.ContainsFunc(s.nodes(), func(who int) bool { return s.w.Leads(who, group) })
}

// round lets each node tick, all parcels come, and each node pick all that it can.
func (s *stage) round() {
	s.t.Helper()
	for who := range s.crashed {
		wants(s.t, "EvTick", s.do(tick(who)), api.OK)
	}
	s.comeAll()
	for who := range s.crashed {
		s.pickAll(who)
	}
}

// isSettled tells whether nothing is pending that was taken in its node's present life, nobody waits, and all have the same records.
func (s *stage) isSettled() bool {
	for _, sub := range s.w.Subs() {
		if sub.End < 0 && sub.Start > s.born[sub.Id.Node] {
			return false
		}
	}
	rows := fmt.Sprint(s.w.Rows(0))
	return !slices.ContainsFunc(s.nodes(), func(who int) bool {
		return len(s.w.Waiting(who)) > 0 || fmt.Sprint(s.w.Rows(who)) != rows
	})
}

// settle lets nodes take some more submissions, and fails, unless all comes to an end in so many rounds, or a log is full: P24.7.
func (s *stage) settle(more, most int) {
	s.t.Helper()
	s.allUp()
	for range more {
		s.do(submit(s.next(len(s.crashed)), s.thrown()))
	}
	// Those of whose ballots only parcels tell are told to all by these.
	s.comeAll()
	left := most
	for ; left > 0; left-- {
		for group := range s.logs {
			if !s.isLed(group) {
				// A ballot may have been a lesser one: the rounds begin behind the last that was not.
				s.reign(group)
			}
		}
		s.round()
		if s.isSettled() {
			return
		}
	}
	if !slices.ContainsFunc(s.logs, func(log []string) bool { return len(log) == api.MaxLog }) {
		s.t.Fatalf("not settled: logs of %d, %d entries", len(s.logs[0]), len(s.logs[s.regions]))
	}
}

// P24.4 to P24.7: whatever happens, and all comes to an end.
func TestWhole(t *testing.T) {
	each(t, 40, func(t *testing.T, seed uint64, regions, replicas int) {
		s := newStage(t, seed, regions, replicas)
		s.order = s.next(orders)
		few := 1 + s.next(20)
		if seed%2 == 0 {
			for group := range s.logs {
				s.reign(group)
			}
		}
		for range 200 + s.next(600) {
			s.step(few)
		}
		s.settle(4, 60)
		s.oneOrder()
	})
}

// P24.7: however many submissions are pending, all comes to an end.
func TestManyPending(t *testing.T) {
	each(t, 6, func(t *testing.T, seed uint64, regions, replicas int) {
		s := newStage(t, seed, regions, replicas)
		s.order = int(seed) % orders
		for k := range 50 {
			who := s.next(len(s.crashed))
			if seed%2 == 0 {
				who = len(s.crashed) - 1
			}
			txn := []api.Txn{writing("x", "a"), writing("y", "a", "b"), reading("c")}[k%3]
			wants(t, "EvSubmit", s.do(submit(who, txn)), api.OK)
		}
		s.settle(0, 30)
		for group, log := range s.logs {
			if len(log) == api.MaxLog {
				t.Fatalf("log %d is full", group)
			}
		}
		s.oneOrder()
	})
}

// P24.5: no try waits in a circle, where keys are moved again and again, and one node lags behind.
func TestCircles(t *testing.T) {
	each(t, 8, func(t *testing.T, seed uint64, regions, replicas int) {
		s := newStage(t, 500+seed, regions, replicas)
		for group := range s.logs {
			s.reign(group)
		}
		slow := s.next(len(s.crashed))
		for range 700 {
			who := s.next(len(s.crashed))
			switch kind := s.next(20); {
			case kind < 13:
				for range s.next(10) {
					s.do(deliver(s.next(5)))
				}
			case kind < 14:
				s.do(tick(who))
			case kind < 18:
				region := s.next(regions)
				for range s.next(6) {
					if who != slow || s.next(8) == 0 {
						s.do(pick(who, region))
					}
				}
			default:
				if len(s.w.Subs()) < 50 {
					s.do(submit(who, s.moves()))
				}
			}
		}
		s.settle(4, 60)
		s.oneOrder()
	})
}

// moves gives some transaction of few keys; every other one is a move.
func (s *stage) moves() api.Txn {
	if s.next(2) == 0 {
		return moving([]string{"a", "b", "c"}[s.next(3)], s.next(s.regions))
	}
	return []api.Txn{writing("x", "a", "b"), writing("y", "b", "c"), writing("z", "a", "c"), reading("a", "b", "c"), reading("b")}[s.next(5)]
}

// P2: two runs of the same events give the same answers.
func TestSameAnswers(t *testing.T) {
	each(t, 3, func(t *testing.T, seed uint64, regions, replicas int) {
		run := func() string {
			s := newStage(t, 1000+seed, regions, replicas)
			for group := range s.logs {
				s.reign(group)
			}
			for range 400 {
				s.step(5)
			}
			return fmt.Sprint(s.w.Subs(), s.w.Made(), s.w.Len(), s.logs, s.rows, s.lives)
		}
		same(t, "the second run", run(), run())
	})
}
