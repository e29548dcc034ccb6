package world

import (
	"argosy/api"
	"argosy/disk"
	"argosy/durable"
	"argosy/node"
)

// seat is where a node stands: its disk, and the node, as long as it is up.
type seat struct {
	disk    *disk.Disk
	node    *node.Node // nil, if it is off
	crashed bool       // since it was up last, so that its disk's power is back
}

// newSeat gives that of a voter, which is up: a disk that is new, of the room that it needs, refuses none of that.
func newSeat(me, regions, replicas int) *seat {
	d := blank()
	durable.Format(d)
	n, _ := node.Open(d, me, regions, replicas, 0)
	return &seat{disk: d, node: n}
}

// blank gives a disk without files.
func blank() *disk.Disk {
	d, _ := disk.New(api.MaxRoom)
	return d
}

// begin lets the node be up, if it was opened. Behind the power's end it has to be crashed again, ahead of the next opening.
func (s *seat) begin(n *node.Node, err api.Errno) {
	s.node = n
	s.crashed = err != api.OK && err != api.ErrDown
}

// crash lets the node be off.
func (s *seat) crash(keeps []int) {
	s.disk = s.disk.Crash(keeps)
	s.node = nil
	s.crashed = true
}

// wipe gives the node a new disk.
func (s *seat) wipe() {
	s.disk = blank()
}

// isReady tells whether the node is off, and may be given a new disk, or a new life.
func (s *seat) isReady() bool {
	return s.node == nil && s.crashed
}
