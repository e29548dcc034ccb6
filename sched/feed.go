package sched

import (
	"slices"

	"argosy/api"
	"argosy/eval"
	"argosy/order"
	"argosy/split"
)

// try is one that came and isn't decided.
type try struct {
	order api.Order
	from  [api.MaxRegions]bool // the regions of whose logs it came
}

// complete tells whether all of a try came. A run's only home is the region of its log, so that it needs no rule of its own.
func (t *try) complete() bool {
	for _, home := range order.Homes(t.order) {
		if !t.from[home] {
			return false
		}
	}
	return true
}

// Feed takes the next entry of a region's log.
func (s *Sched) Feed(region int, i api.Item) []api.Decision {
	if !s.has(region) || !right(i, len(s.logs)) {
		return nil
	}
	at := &s.logs[region]
	at.fed++
	if !at.filter.Item(i) {
		return nil
	}
	s.enter(region, i)
	return s.decideAll()
}

// right tells whether an item is right, also for so many regions.
func right(i api.Item, regions int) bool {
	if order.Check(i.Order, regions) != api.OK {
		return false
	}
	_, err := order.WriteItem(i)
	return err == api.OK
}

// enter lets the try of an item that counts wait for the item's keys.
func (s *Sched) enter(region int, i api.Item) {
	t, waits := s.find(i.Order.Tag)
	if waits && i.Kind == api.ItRun {
		return
	}
	if !waits {
		t = &try{order: order.Copy(i.Order)}
		s.came = append(s.came, t)
	}
	t.from[region] = true
	// All marks of a run are of its log's region.
	s.locks.Enter(s.records, i.Order.Tag, split.Part(i.Order, region))
}

// find gives the try with a tag among those that came.
func (s *Sched) find(tag api.Tag) (*try, bool) {
	for _, t := range s.came {
		if t.order.Tag == tag {
			return t, true
		}
	}
	return nil, false
}

// decideAll decides tries, the elder ones first, as long as one has its turn: each that leaves may give a turn to others.
func (s *Sched) decideAll() []api.Decision {
	var all []api.Decision
	for {
		at := slices.IndexFunc(s.came, s.hasTurn)
		if at < 0 {
			return all
		}
		all = append(all, s.decide(s.came[at].order))
	}
}

// hasTurn tells whether a try can be decided.
func (s *Sched) hasTurn(t *try) bool {
	tag := t.order.Tag
	return t.complete() && (s.locks.Doomed(tag) || s.locks.Ready(tag))
}

// decide decides the try of an order. Behind a move those that wait for the key are looked at anew, when the try isn't among them any more.
func (s *Sched) decide(o api.Order) api.Decision {
	result := s.do(o)
	if o.Txn.Kind == api.TxMove && result.Code == api.OK {
		s.locks.Moved(s.records, o.Txn.Writes[0])
	}
	return api.Decision{Tag: o.Tag, Result: result}
}

// do does an order's transaction, unless its try is stale; the try leaves, whatever became of it.
func (s *Sched) do(o api.Order) api.Result {
	defer s.leave(o.Tag)
	if s.locks.Doomed(o.Tag) {
		return api.Result{Code: api.ErrStale}
	}
	result, writes := eval.Run(s.records, o.Txn)
	eval.Apply(s.records, writes)
	return result
}

// leave lets a try wait no more.
func (s *Sched) leave(tag api.Tag) {
	s.locks.Leave(tag)
	s.came = slices.DeleteFunc(s.came, func(t *try) bool { return t.order.Tag == tag })
}
