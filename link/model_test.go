package link

import (
	"bytes"
	"math"
	"slices"
	"strconv"
	"testing"

	"argosy/api"
)

// model is a side that is kept by the words of the chapter: all data that it has ever sent, and all that came from the peer.
type model struct {
	epoch, peer uint64
	sent        [][]byte
	done        int // so many of sent are acknowledged
	before      int // so many of them were, when the peer came to be known
	came        []arrival
	brought     int
}

// arrival is a packet's data, with their number.
type arrival struct {
	seq  uint64
	data []byte
}

func (m *model) send(data []byte) api.Errno {
	if len(m.sent)-m.done == 16 {
		return api.ErrFull
	}
	m.sent = append(m.sent, data)
	return api.OK
}

func (m *model) packets() []api.Packet {
	if len(m.sent) == m.done {
		return nil
	}
	if m.peer == 0 {
		return []api.Packet{{Epoch: m.epoch}}
	}
	var all []api.Packet
	for i := m.done; i < len(m.sent); i++ {
		all = append(all, api.Packet{Epoch: m.epoch, Peer: m.peer, Seq: uint64(i - m.before + 1), Ack: uint64(m.brought), Data: m.sent[i]})
	}
	return all
}

func (m *model) receive(p api.Packet) ([][]byte, []api.Packet) {
	if p.Epoch == 0 || p.Epoch < m.peer {
		return nil, nil
	}
	if p.Epoch > m.peer {
		m.peer, m.before, m.came, m.brought = p.Epoch, m.done, nil, 0
	}
	answer := api.Packet{Epoch: m.epoch, Peer: m.peer, Ack: uint64(m.brought)}
	if p.Peer != m.epoch {
		return nil, []api.Packet{answer}
	}
	for m.done < len(m.sent) && uint64(m.done-m.before+1) <= p.Ack {
		m.done++
	}
	if p.Seq == 0 {
		return nil, nil
	}
	known := slices.ContainsFunc(m.came, func(a arrival) bool { return a.seq == p.Seq })
	if !known && p.Seq > uint64(m.brought) && p.Seq-uint64(m.brought) <= 16 {
		m.came = append(m.came, arrival{p.Seq, p.Data})
	}
	var turn [][]byte
	for {
		at := slices.IndexFunc(m.came, func(a arrival) bool { return a.seq == uint64(m.brought+1) })
		if at < 0 {
			break
		}
		turn = append(turn, m.came[at].data)
		m.brought++
	}
	answer.Ack = uint64(m.brought)
	return turn, []api.Packet{answer}
}

func samePackets(a, b []api.Packet) bool {
	return slices.EqualFunc(a, b, func(p, q api.Packet) bool {
		return p.Epoch == q.Epoch && p.Peer == q.Peer && p.Seq == q.Seq && p.Ack == q.Ack && bytes.Equal(p.Data, q.Data)
	})
}

// call is a Receive of a packet, or, where there is none, a Send.
type call struct {
	packet *api.Packet
	data   []byte
}

// do does a call to both, and tells whether both answered alike, and are alike behind it.
func (c call) do(l *Link, m *model) bool {
	if c.packet == nil {
		if l.Send(c.data) != m.send(c.data) {
			return false
		}
	} else {
		came, answers := l.Receive(*c.packet)
		want, told := m.receive(*c.packet)
		if !slices.EqualFunc(came, want, bytes.Equal) || !samePackets(answers, told) {
			return false
		}
	}
	return l.Open() == len(m.sent)-m.done && l.Peer() == m.peer && samePackets(l.Packets(), m.packets())
}

// calls are a Send, and packets of few numbers, in all ways.
func calls(epochs, peers, seqs, acks []uint64) []call {
	all := []call{{data: []byte("sent")}}
	for _, epoch := range epochs {
		for _, peer := range peers {
			for _, seq := range seqs {
				for _, ack := range acks {
					p := packet(epoch, peer, seq, ack, strconv.Itoa(len(all)))
					all = append(all, call{packet: &p})
				}
			}
		}
	}
	return all
}

// allRows does all rows of so many of these calls.
func allRows(t *testing.T, all []call, length int) {
	t.Helper()
	rows := 1
	for range length {
		rows *= len(all)
	}
	for row := range rows {
		l, m := New(5), &model{epoch: 5}
		for i, rest := 0, row; i < length; i, rest = i+1, rest/len(all) {
			if c := all[rest%len(all)]; !c.do(l, m) {
				t.Fatalf("row %d, call %d: %v", row, i, c)
			}
		}
	}
}

// P19.1 to P19.4: all rows of few calls.
func TestAllRowsOfCalls(t *testing.T) {
	allRows(t, calls([]uint64{0, 1, 2}, []uint64{0, 5, 6}, []uint64{0, 1, 2, 17}, []uint64{0, 1, math.MaxUint64}), 3)
	allRows(t, calls([]uint64{1, 2}, []uint64{5}, []uint64{0, 1, 2, 3}, []uint64{0, 1}), 4)
	allRows(t, calls([]uint64{1}, []uint64{5}, []uint64{0, 1, 2}, []uint64{0, 1, 2}), 5)
	allRows(t, calls([]uint64{1, 2}, []uint64{0, 5}, []uint64{1, 2}, []uint64{0}), 5)
}

// thrown gives a call that is at or near what a side has.
func thrown(next func(int) int, m *model) call {
	if next(4) == 0 {
		return call{data: []byte(strconv.Itoa(next(1000)))}
	}
	p := packet(m.peer, m.epoch, uint64(m.brought+next(20)-2), uint64(m.done-m.before+next(5)-2), strconv.Itoa(next(1000)))
	if next(2) == 0 {
		p.Seq = uint64(m.brought + 1 + next(3))
	}
	if next(10) == 0 {
		p.Seq = 0
	}
	if next(40) == 0 {
		p.Ack = uint64(next(2000))
	}
	if next(30) == 0 {
		p.Peer = uint64(next(8))
	}
	if next(30) == 0 {
		p.Epoch += uint64(next(4)) - 1
	}
	return call{packet: &p}
}

// kept tells how many data came ahead of their turn.
func (m *model) kept() int {
	return len(m.came) - m.brought
}

// P19.1 to P19.4: long rows of calls; nothing is kept of what was brought.
func TestLongRows(t *testing.T) {
	next := steps(19)
	brought, full, lives := 0, 0, uint64(0)
	for row := range 500 {
		epoch := uint64(row % 8)
		l, m := New(epoch), &model{epoch: epoch}
		for i := range 400 {
			c := thrown(next, m)
			if !c.do(l, m) {
				t.Fatalf("row %d, call %d: %v, %v", row, i, c, c.packet)
			}
			if len(l.early) != m.kept() {
				t.Fatalf("row %d, call %d: %d are kept, of which %d are early", row, i, len(l.early), m.kept())
			}
			if l.Open() == 16 {
				full++
			}
		}
		brought, lives = brought+m.brought, lives+m.peer
	}
	if brought < 10000 || full < 100 || lives < 1000 {
		t.Errorf("%d were brought, %d times it was full, %d lives", brought, full, lives)
	}
}
