package link

import (
	"fmt"
	"strconv"
	"testing"

	"argosy/api"
)

// packet gives a packet; its data may be none.
func packet(epoch, peer, seq, ack uint64, data string) api.Packet {
	return api.Packet{Epoch: epoch, Peer: peer, Seq: seq, Ack: ack, Data: []byte(data)}
}

// sends sends data, each of which must be taken.
func sends(t *testing.T, l *Link, data ...string) {
	t.Helper()
	for _, d := range data {
		if err := l.Send([]byte(d)); err != api.OK {
			t.Errorf("Send of %q: %v", d, err)
		}
	}
}

// packets fails, unless just these are to be sent.
func packets(t *testing.T, l *Link, want ...api.Packet) {
	t.Helper()
	if got := l.Packets(); fmt.Sprint(got) != fmt.Sprint(want) {
		t.Errorf("Packets: %v, want %v", got, want)
	}
}

// stands fails, unless a side has so many data open, and knows this peer.
func stands(t *testing.T, l *Link, open int, peer uint64) {
	t.Helper()
	if l.Open() != open || l.Peer() != peer {
		t.Errorf("Open %d, Peer %d, want %d, %d", l.Open(), l.Peer(), open, peer)
	}
}

// brings receives a packet, and fails, unless this is the answer, without data, and it brings these.
func brings(t *testing.T, l *Link, p, answer api.Packet, want ...string) {
	t.Helper()
	came, answers := l.Receive(p)
	if texts(came) != fmt.Sprintf("%q", want) || fmt.Sprint(answers) != fmt.Sprint([]api.Packet{answer}) {
		t.Errorf("Receive of %v: %s, %v, want %q, %v", p, texts(came), answers, want, answer)
	}
}

// silent receives a packet, and fails, unless it brings nothing, and isn't answered.
func silent(t *testing.T, l *Link, p api.Packet) {
	t.Helper()
	if came, answers := l.Receive(p); len(came) > 0 || len(answers) > 0 {
		t.Errorf("Receive of %v: %s, %v, want nothing", p, texts(came), answers)
	}
}

// texts tells of data.
func texts(data [][]byte) string {
	return fmt.Sprintf("%q", data)
}

// numbered gives data with the numbers from first to last.
func numbered(first, last int) []string {
	var all []string
	for i := first; i <= last; i++ {
		all = append(all, "d"+strconv.Itoa(i))
	}
	return all
}

// met gives a side of the life 5 that knows the life 7, from which nothing has come.
func met(t *testing.T) *Link {
	t.Helper()
	l := New(5)
	silent(t, l, packet(7, 5, 0, 0, ""))
	stands(t, l, 0, 7)
	return l
}

// steps is a row of numbers that looks thrown, and is the same in each run.
func steps(seed uint64) func(below int) int {
	return func(below int) int {
		seed = seed*6364136223846793005 + 1442695040888963407
		return int(seed>>33) % below
	}
}
