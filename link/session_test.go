package link

import (
	"slices"
	"strconv"
	"testing"

	"argosy/api"
)

// lives are two: that which sent, and that which got.
type lives struct {
	from, to uint64
}

// session is two nodes with a link between them, and a network that may lose, double and delay whatever was sent.
type session struct {
	t       *testing.T
	next    func(below int) int
	life    [2]uint64
	link    [2]*Link
	last    [2][]string // what each node's present life has sent, in order
	pool    [2][]api.Packet
	sent    [2]map[lives][]string // what a life has to bring to another one
	brought [2]map[lives][]string // what it has brought
}

func began(t *testing.T, next func(below int) int) *session {
	s := &session{t: t, next: next}
	for who := range 2 {
		s.sent[who], s.brought[who] = map[lives][]string{}, map[lives][]string{}
		s.begin(who)
	}
	return s
}

// begin begins a node's next life.
func (s *session) begin(who int) {
	s.life[who] += 1 + uint64(s.next(3))
	s.link[who], s.last[who] = New(s.life[who]), nil
}

// send sends data that are sent nowhere else.
func (s *session) send(who int) {
	data := strconv.Itoa(who) + " in " + strconv.Itoa(int(s.life[who])) + ": " + strconv.Itoa(len(s.last[who]))
	if s.link[who].Send([]byte(data)) != api.OK {
		return
	}
	s.last[who] = append(s.last[who], data)
	if peer := s.link[who].Peer(); peer > 0 {
		at := lives{s.life[who], peer}
		s.sent[who][at] = append(s.sent[who][at], data)
	}
}

// offer lets a node send what it has to send now.
func (s *session) offer(who int) {
	s.pool[who] = append(s.pool[who], s.link[who].Packets()...)
}

// deliver lets a packet of a node come to the other one, and holds what it brings against what was sent.
func (s *session) deliver(from int, p api.Packet) []api.Packet {
	to := 1 - from
	peer, open := s.link[to].Peer(), s.link[to].Open()
	came, answers := s.link[to].Receive(p)
	if known := s.link[to].Peer(); known != peer {
		s.sent[to][lives{s.life[to], known}] = slices.Clone(s.last[to][len(s.last[to])-open:])
	}
	at := lives{p.Epoch, s.life[to]}
	for _, data := range came {
		s.brought[from][at] = append(s.brought[from][at], string(data))
	}
	brought, sent := s.brought[from][at], s.sent[from][at]
	if len(brought) > len(sent) || !slices.Equal(brought, sent[:len(brought)]) {
		s.t.Fatalf("of the life %d to %d %q came, %q was sent", at.from, at.to, brought, sent)
	}
	// What is acknowledged has come.
	at = lives{s.life[to], s.link[to].Peer()}
	if len(s.sent[to][at])-s.link[to].Open() > len(s.brought[to][at]) {
		s.t.Fatalf("of the life %d to %d: %d are open, of %q only %q came", at.from, at.to, s.link[to].Open(), s.sent[to][at], s.brought[to][at])
	}
	return answers
}

// step lets anything happen; of all that was ever sent any packet may come, the late ones rather.
func (s *session) step() {
	who := s.next(2)
	switch kind := s.next(100); {
	case kind < 15:
		s.send(who)
	case kind < 30:
		s.offer(who)
	case kind < 98:
		size := len(s.pool[who])
		if size == 0 {
			return
		}
		near := min(size, 1<<s.next(8))
		answers := s.deliver(who, s.pool[who][size-1-s.next(near)])
		s.pool[1-who] = append(s.pool[1-who], answers...)
	default:
		s.begin(who)
	}
}

// round lets both send all that they have to send; some of it comes, in any order.
func (s *session) round() {
	for who := range 2 {
		packets := s.link[who].Packets()
		for len(packets) > 0 {
			at := s.next(len(packets))
			p := packets[at]
			packets = slices.Delete(packets, at, at+1)
			if s.next(3) == 0 {
				continue
			}
			for _, answer := range s.deliver(who, p) {
				if s.next(3) > 0 {
					s.deliver(1-who, answer)
				}
			}
		}
	}
}

// end goes on until all is acknowledged, and fails, unless all was brought then.
func (s *session) end() {
	for rounds := 0; s.link[0].Open()+s.link[1].Open() > 0; rounds++ {
		if rounds > 200 {
			s.t.Fatalf("%d and %d are open in the end", s.link[0].Open(), s.link[1].Open())
		}
		s.round()
	}
	for who := range 2 {
		at := lives{s.life[who], s.life[1-who]}
		if !slices.Equal(s.sent[who][at], s.brought[who][at]) {
			s.t.Fatalf("in the end %q came, %q was sent", s.brought[who][at], s.sent[who][at])
		}
	}
}

// P19.5: whatever becomes of packets, data come in order, and once; in the end all of them.
func TestSessions(t *testing.T) {
	brought, begun := 0, uint64(0)
	for seed := range 3000 {
		s := began(t, steps(uint64(seed)))
		for range 200 {
			s.step()
		}
		s.end()
		for who := range 2 {
			for _, list := range s.brought[who] {
				brought += len(list)
			}
			begun += s.life[who]
		}
	}
	if brought < 20000 || begun < 10000 {
		t.Errorf("only %d were brought, in %d lives", brought, begun)
	}
}

// P19.5: without a new life all that is sent comes, window by window.
func TestLongSession(t *testing.T) {
	for seed := range 20 {
		s := began(t, steps(uint64(seed)))
		for range 400 {
			for who := range 2 {
				for range s.next(30) {
					s.send(who)
				}
			}
			s.round()
		}
		s.end()
		for who := range 2 {
			if got := len(s.brought[who][lives{s.life[who], s.life[1-who]}]); got < 500 || got != len(s.last[who]) {
				t.Errorf("%d of %d came", got, len(s.last[who]))
			}
		}
	}
}
