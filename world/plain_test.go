package world

import (
	"fmt"
	"slices"
	"testing"

	"argosy/api"
	"argosy/disk"
	"argosy/durable"
	"argosy/node"
)

// plain is a world done step by step, with nothing but nodes, disks and lists.
type plain struct {
	t                 *testing.T
	regions, replicas int
	disks             []*disk.Disk
	nodes             []*node.Node // nil, if one is off
	crashed           []bool
	parcels           []api.Parcel
	now               int
	subs              []api.Sub
	made              []api.Made
}

func newPlain(t *testing.T, regions, replicas int) *plain {
	t.Helper()
	p := &plain{t: t, regions: regions, replicas: replicas}
	for me := range regions * replicas {
		d, err := disk.New(api.MaxRoom)
		wants(t, "disk.New", err, api.OK)
		wants(t, "Format", durable.Format(d), api.OK)
		n, err := node.Open(d, me, regions, replicas, 0)
		wants(t, "Open", err, api.OK)
		p.disks, p.nodes, p.crashed = append(p.disks, d), append(p.nodes, n), append(p.crashed, false)
	}
	return p
}

// do lets something happen.
func (p *plain) do(e api.Event) api.Errno {
	err := p.step(e)
	for who, n := range p.nodes {
		if n == nil {
			continue
		}
		for _, parcel := range n.Out() {
			if len(p.parcels) < 4000 {
				p.parcels = append(p.parcels, parcel)
			}
		}
		for _, r := range n.Replies() {
			at := slices.IndexFunc(p.subs, func(s api.Sub) bool { return s.Id == r.Id })
			p.subs[at].End, p.subs[at].Result = p.now, r.Result
		}
		for _, d := range n.Decided() {
			p.made = append(p.made, api.Made{Node: who, At: p.now, Decision: d})
		}
		if n.Down() {
			p.nodes[who] = nil
		}
	}
	p.now++
	return err
}

// node gives one that is up.
func (p *plain) node(who int) *node.Node {
	if who < 0 || who >= len(p.nodes) {
		return nil
	}
	return p.nodes[who]
}

func (p *plain) step(e api.Event) api.Errno {
	n, there := p.node(e.Who), e.Who >= 0 && e.Who < len(p.nodes)
	parcel := e.K >= 0 && e.K < len(p.parcels)
	switch {
	case e.Kind == api.EvSubmit && n != nil:
		id, err := n.Submit(e.Txn)
		if err == api.OK {
			p.subs = append(p.subs, api.Sub{Id: id, Txn: e.Txn, Start: p.now, End: -1})
		}
		return err
	case e.Kind == api.EvTick && n != nil:
		n.Tick()
	case e.Kind == api.EvPick && n != nil && n.Pick(e.K):
	case e.Kind == api.EvLead && n != nil:
		return n.Lead(e.K)
	case e.Kind == api.EvCheck && n != nil:
		return n.Check()
	case e.Kind == api.EvDeliver && parcel:
		came := p.parcels[e.K]
		p.parcels = slices.Delete(p.parcels, e.K, e.K+1)
		if to := p.nodes[came.To]; to != nil {
			to.Take(came)
		}
	case e.Kind == api.EvDrop && parcel:
		p.parcels = slices.Delete(p.parcels, e.K, e.K+1)
	case e.Kind == api.EvCopy && parcel && len(p.parcels) < 4000:
		p.parcels = append(p.parcels, p.parcels[e.K])
	case e.Kind == api.EvPower && n != nil:
		p.disks[e.Who].Limit(e.K)
	case e.Kind == api.EvCrash && there:
		p.nodes[e.Who], p.disks[e.Who], p.crashed[e.Who] = nil, p.disks[e.Who].Crash(e.Keeps), true
	case e.Kind == api.EvOpen && there && n == nil && p.crashed[e.Who]:
		again, err := node.Open(p.disks[e.Who], e.Who, p.regions, p.replicas, uint64(p.now))
		wants(p.t, "Open", err, api.OK)
		p.nodes[e.Who], p.crashed[e.Who] = again, false
	case e.Kind == api.EvWipe && there && n == nil && p.crashed[e.Who]:
		d, err := disk.New(api.MaxRoom)
		wants(p.t, "disk.New", err, api.OK)
		p.disks[e.Who] = d
	default:
		return api.ErrStep
	}
	return api.OK
}

// told gives all that is to be told of a node.
func (p *plain) told(who int) string {
	n := p.node(who)
	if n == nil {
		return fmt.Sprint(false)
	}
	all := []any{true, n.Rows(), n.Waiting()}
	for _, tag := range n.Waiting() {
		all = append(all, n.Ahead(tag))
	}
	for group := -1; group <= 4; group++ {
		all = append(all, n.Chosen(group), n.Leads(group), n.Fed(group))
	}
	return fmt.Sprint(all...)
}

// told gives all that a world tells of a node.
func told(w *World, who int) string {
	if !w.Up(who) {
		nothing := fmt.Sprint(w.Rows(who), w.Waiting(who), w.Ahead(who, api.Tag{}), w.Chosen(who, 0), w.Leads(who, 0), w.Fed(who, 0))
		if nothing != "[] [] [] [] false 0" {
			return nothing
		}
		return fmt.Sprint(false)
	}
	all := []any{true, w.Rows(who), w.Waiting(who)}
	for _, tag := range w.Waiting(who) {
		all = append(all, w.Ahead(who, tag))
	}
	for group := -1; group <= 4; group++ {
		all = append(all, w.Chosen(who, group), w.Leads(who, group), w.Fed(who, group))
	}
	return fmt.Sprint(all...)
}

// P24.1 to P24.3: each event does what it does to a world of lists, whatever happens.
func TestAgainstPlain(t *testing.T) {
	each(t, 12, func(t *testing.T, seed uint64, regions, replicas int) {
		s := newStage(t, 77+seed, regions, replicas)
		p := newPlain(t, regions, replicas)
		few := 1 + s.next(4)
		if seed%2 == 0 {
			for group := range regions + 1 {
				e := lead(s.members(group)[0], group)
				same(t, "Do", s.w.Do(e), p.do(e))
			}
		}
		for range 500 + s.next(1500) {
			e := s.event(few)
			same(t, fmt.Sprint("Do of ", e), s.w.Do(e), p.do(e))
			same(t, "Len", s.w.Len(), len(p.parcels))
			if who := s.next(len(s.crashed)+2) - 1; s.next(4) == 0 {
				same(t, fmt.Sprint("node ", who), told(s.w, who), p.told(who))
			}
		}
		same(t, "Subs", s.w.Subs(), p.subs)
		same(t, "Made", s.w.Made(), p.made)
		for who := range s.crashed {
			same(t, fmt.Sprint("node ", who), told(s.w, who), p.told(who))
		}
	})
}

// event gives some event, of a node or a parcel that there may not be.
func (s *stage) event(few int) api.Event {
	who := s.next(len(s.crashed))
	if s.next(40) == 0 {
		who = []int{-1, len(s.crashed), 1000}[s.next(3)]
	}
	seldom := []int{api.EvCheck, api.EvDrop, api.EvCopy, api.EvPower, api.EvCrash, api.EvWipe, api.EvWipe + 1, 0, api.EvLead, api.EvLead}
	kind := []int{api.EvTick, api.EvSubmit, api.EvPick, api.EvPick, api.EvPick, api.EvOpen}[s.next(6)]
	if s.w.Len() > s.next(60) {
		kind = api.EvDeliver
	}
	if s.next(40) == 0 {
		kind = seldom[s.next(len(seldom))]
	}
	e := api.Event{Kind: kind, Who: who, K: s.next(few)}
	switch kind {
	case api.EvSubmit:
		e.Txn = s.thrown()
	case api.EvPick, api.EvLead:
		e.K = s.next(s.regions+3) - 1
	case api.EvPower:
		e.K = s.next(40) - 2
	case api.EvCrash:
		e.Keeps = s.keeps()
	}
	return e
}
