package world

import (
	"argosy/api"
	"argosy/node"
	"argosy/prog"
)

// Do lets something happen.
func (w *World) Do(e api.Event) api.Errno {
	defer func() { w.events++ }()
	switch e.Kind {
	case api.EvSubmit, api.EvTick, api.EvPick, api.EvLead, api.EvCheck, api.EvPower:
		return w.toNode(e)
	case api.EvDeliver, api.EvDrop, api.EvCopy:
		return w.toParcel(e)
	case api.EvCrash, api.EvOpen, api.EvWipe:
		return w.toSeat(e)
	}
	return api.ErrStep
}

// toNode lets something happen to a node that is up.
func (w *World) toNode(e api.Event) api.Errno {
	n := w.up(e.Who)
	if n == nil {
		return api.ErrStep
	}
	// The disk may be down by any of these, and by most there is something to be told.
	defer w.gather(e.Who)
	switch e.Kind {
	case api.EvSubmit:
		return w.submit(n, e.Txn)
	case api.EvTick:
		n.Tick()
	case api.EvPick:
		return stepped(n.Pick(e.K))
	case api.EvLead:
		return n.Lead(e.K)
	case api.EvCheck:
		return n.Check()
	case api.EvPower:
		w.seats[e.Who].disk.Limit(e.K)
	}
	return api.OK
}

// toParcel lets something happen to a parcel.
func (w *World) toParcel(e api.Event) api.Errno {
	switch e.Kind {
	case api.EvDrop:
		return stepped(w.Drop(e.K))
	case api.EvCopy:
		return stepped(w.Copy(e.K))
	}
	p, ok := w.Take(e.K)
	if n := w.up(p.To); ok && n != nil {
		n.Take(p)
		w.gather(p.To)
	}
	return stepped(ok)
}

// toSeat lets something happen to a node that is off, or is so from now on.
func (w *World) toSeat(e api.Event) api.Errno {
	s := w.seat(e.Who)
	switch {
	case s == nil:
		return api.ErrStep
	case e.Kind == api.EvCrash:
		s.crash(e.Keeps)
		return api.OK
	case !s.isReady():
		return api.ErrStep
	case e.Kind == api.EvWipe:
		s.wipe()
		return api.OK
	}
	n, err := node.Open(s.disk, e.Who, w.regions, w.replicas, uint64(w.events))
	s.begin(n, err)
	return err
}

// submit lets a node take a transaction.
func (w *World) submit(n *node.Node, t api.Txn) api.Errno {
	id, err := n.Submit(t)
	if err == api.OK {
		w.open[id] = len(w.subs)
		w.subs = append(w.subs, api.Sub{Id: id, Txn: prog.Copy(t), Start: w.events, End: -1})
	}
	return err
}

// gather takes what a node that is up has sent, replied and decided within the event. It is off behind that, if its disk is down.
func (w *World) gather(who int) {
	s := w.seats[who]
	for _, p := range s.node.Out() {
		// What has no room is lost.
		w.Send(p)
	}
	for _, r := range s.node.Replies() {
		w.reply(r)
	}
	for _, d := range s.node.Decided() {
		w.made = append(w.made, api.Made{Node: who, At: w.events, Decision: d})
	}
	if s.node.Down() {
		s.node = nil
	}
}

// reply notes what a submission was replied.
func (w *World) reply(r api.Reply) {
	sub := &w.subs[w.open[r.Id]]
	sub.End, sub.Result = w.events, r.Result
	delete(w.open, r.Id)
}

// stepped tells a false as an error.
func stepped(ok bool) api.Errno {
	if !ok {
		return api.ErrStep
	}
	return api.OK
}
