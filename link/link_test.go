package link

import (
	"fmt"
	"math"
	"testing"

	"argosy/api"
)

// P19.1: a side that knows nothing, of any life.
func TestNew(t *testing.T) {
	for _, epoch := range []uint64{0, 1, 2, 1 << 63, math.MaxUint64} {
		l := New(epoch)
		stands(t, l, 0, 0)
		packets(t, l)
		sends(t, l, "x")
		stands(t, l, 1, 0)
		packets(t, l, packet(epoch, 0, 0, 0, ""))
		brings(t, l, packet(9, epoch+1, 1, 1, "y"), packet(epoch, 9, 0, 0, ""))
		packets(t, l, packet(epoch, 9, 1, 0, "x"))
		brings(t, l, packet(9, epoch, 1, 1, "y"), packet(epoch, 9, 0, 1, ""), "y")
		stands(t, l, 0, 9)
	}
}

// Chapter 19's example.
func TestExample(t *testing.T) {
	one, two := New(1), New(2)
	sends(t, one, "x")
	packets(t, one, packet(1, 0, 0, 0, ""))
	answer := packet(2, 1, 0, 0, "")
	brings(t, two, packet(1, 0, 0, 0, ""), answer)
	silent(t, one, answer)
	packets(t, one, packet(1, 2, 1, 0, "x"))
	answer = packet(2, 1, 0, 1, "")
	brings(t, two, packet(1, 2, 1, 0, "x"), answer, "x")
	stands(t, one, 1, 2)
	silent(t, one, answer)
	stands(t, one, 0, 2)
	packets(t, one)
}

// P19.2: as many data as the window has, whether the peer is known or not.
func TestSendFull(t *testing.T) {
	full := func(l *Link) {
		t.Helper()
		before := fmt.Sprint(l.Packets())
		for range 2 {
			if err := l.Send([]byte("one more")); err != api.ErrFull {
				t.Errorf("Send: %v", err)
			}
		}
		if after := fmt.Sprint(l.Packets()); after != before || l.Open() != 16 {
			t.Errorf("an ErrFull has changed something: %s, was %s", after, before)
		}
	}
	l := New(5)
	for i, d := range numbered(1, 16) {
		sends(t, l, d)
		stands(t, l, i+1, 0)
	}
	full(l)
	silent(t, l, packet(7, 5, 0, 0, ""))
	full(l)
	silent(t, l, packet(7, 5, 0, 1, ""))
	stands(t, l, 15, 7)
	sends(t, l, "d17")
	full(l)
	silent(t, l, packet(7, 5, 0, 4, ""))
	sends(t, l, "d18", "d19", "d20")
	full(l)
	var want []api.Packet
	for i, d := range numbered(5, 20) {
		want = append(want, packet(5, 7, uint64(5+i), 0, d))
	}
	packets(t, l, want...)
}

// P19.2, P19.3: data may be empty, and long, and alike.
func TestAnyData(t *testing.T) {
	l, long := met(t), string(make([]byte, 100000))
	if err := l.Send(nil); err != api.OK {
		t.Errorf("Send of nil: %v", err)
	}
	sends(t, l, "", long, "x", "x")
	packets(t, l, packet(5, 7, 1, 0, ""), packet(5, 7, 2, 0, ""), packet(5, 7, 3, 0, long), packet(5, 7, 4, 0, "x"), packet(5, 7, 5, 0, "x"))
	brings(t, l, packet(7, 5, 2, 0, ""), packet(5, 7, 0, 0, ""))
	brings(t, l, packet(7, 5, 1, 0, ""), packet(5, 7, 0, 2, ""), "", "")
	brings(t, l, packet(7, 5, 3, 0, long), packet(5, 7, 0, 3, ""), long)
}

// P19.3: a hello stands for all data, and is given until the peer is known.
func TestHello(t *testing.T) {
	l := New(5)
	packets(t, l)
	for i, d := range numbered(1, 16) {
		sends(t, l, d)
		packets(t, l, packet(5, 0, 0, 0, ""))
		packets(t, l, packet(5, 0, 0, 0, ""))
		stands(t, l, i+1, 0)
	}
	silent(t, l, packet(0, 5, 1, 3, "x"))
	packets(t, l, packet(5, 0, 0, 0, ""))
	brings(t, l, packet(1, 0, 0, 0, ""), packet(5, 1, 0, 0, ""))
	if got := len(l.Packets()); got != 16 {
		t.Errorf("%d packets", got)
	}
}

// P19.3: packets tell of all data, of the peer, and of what came.
func TestPackets(t *testing.T) {
	l := met(t)
	packets(t, l)
	sends(t, l, "a")
	packets(t, l, packet(5, 7, 1, 0, "a"))
	sends(t, l, "b", "c")
	brings(t, l, packet(7, 5, 1, 0, "x"), packet(5, 7, 0, 1, ""), "x")
	for range 2 {
		packets(t, l, packet(5, 7, 1, 1, "a"), packet(5, 7, 2, 1, "b"), packet(5, 7, 3, 1, "c"))
	}
	brings(t, l, packet(7, 5, 3, 1, "z"), packet(5, 7, 0, 1, ""))
	packets(t, l, packet(5, 7, 2, 1, "b"), packet(5, 7, 3, 1, "c"))
	brings(t, l, packet(7, 5, 2, 0, "y"), packet(5, 7, 0, 3, ""), "y", "z")
	packets(t, l, packet(5, 7, 2, 3, "b"), packet(5, 7, 3, 3, "c"))
	silent(t, l, packet(7, 5, 0, 3, ""))
	packets(t, l)
	sends(t, l, "d")
	packets(t, l, packet(5, 7, 4, 3, "d"))
}

// P19.4: packets of no life, and of an elder one, do nothing.
func TestElderLives(t *testing.T) {
	for _, epoch := range []uint64{0, 1, 6} {
		l := met(t)
		sends(t, l, "a", "b")
		brings(t, l, packet(7, 5, 2, 0, "y"), packet(5, 7, 0, 0, ""))
		for _, peer := range []uint64{0, 4, 5, 6} {
			for seq := range uint64(4) {
				silent(t, l, packet(epoch, peer, seq, 2, "x"))
			}
		}
		stands(t, l, 2, 7)
		packets(t, l, packet(5, 7, 1, 0, "a"), packet(5, 7, 2, 0, "b"))
		brings(t, l, packet(7, 5, 1, 0, "x"), packet(5, 7, 0, 2, ""), "x", "y")
	}
	l := New(5)
	silent(t, l, packet(0, 5, 1, 0, "x"))
	silent(t, l, packet(0, 0, 1, 0, "x"))
	stands(t, l, 0, 0)
	l = New(0)
	silent(t, l, packet(0, 0, 1, 0, "x"))
	stands(t, l, 0, 0)
}

// P19.4: a new life of the other side begins anew, in both directions; what isn't acknowledged stays.
func TestNewLife(t *testing.T) {
	for _, epoch := range []uint64{8, 9, math.MaxUint64} {
		l := met(t)
		sends(t, l, "a", "b", "c", "d")
		brings(t, l, packet(7, 5, 1, 1, "x"), packet(5, 7, 0, 1, ""), "x")
		for seq := uint64(3); seq <= 17; seq++ {
			brings(t, l, packet(7, 5, seq, 2, "early"), packet(5, 7, 0, 1, ""))
		}
		packets(t, l, packet(5, 7, 3, 1, "c"), packet(5, 7, 4, 1, "d"))
		silent(t, l, packet(epoch, 5, 0, 0, ""))
		stands(t, l, 2, epoch)
		packets(t, l, packet(5, epoch, 1, 0, "c"), packet(5, epoch, 2, 0, "d"))
		silent(t, l, packet(7, 5, 2, 4, "y"))
		brings(t, l, packet(epoch, 5, 2, 1, "Y"), packet(5, epoch, 0, 0, ""))
		packets(t, l, packet(5, epoch, 2, 0, "d"))
		brings(t, l, packet(epoch, 5, 1, 1, "X"), packet(5, epoch, 0, 2, ""), "X", "Y")
		sends(t, l, "e")
		packets(t, l, packet(5, epoch, 2, 2, "d"), packet(5, epoch, 3, 2, "e"))
	}
}

// P19.4: the first packet of a new life may bring data, and acknowledge.
func TestNewLifeBrings(t *testing.T) {
	l := met(t)
	sends(t, l, "a", "b", "c")
	brings(t, l, packet(7, 5, 1, 2, "x"), packet(5, 7, 0, 1, ""), "x")
	brings(t, l, packet(8, 5, 1, 1, "X"), packet(5, 8, 0, 1, ""), "X")
	stands(t, l, 0, 8)
	l = New(5)
	brings(t, l, packet(8, 5, 1, 0, "X"), packet(5, 8, 0, 1, ""), "X")
	l = New(5)
	sends(t, l, "a", "b")
	brings(t, l, packet(8, 5, 2, 1, "Y"), packet(5, 8, 0, 0, ""))
	packets(t, l, packet(5, 8, 2, 0, "b"))
}

// P19.4: what is meant for another life is answered, and tells of the sender's life alone.
func TestAnotherLife(t *testing.T) {
	for _, peer := range []uint64{0, 1, 4, 6, math.MaxUint64} {
		l := met(t)
		sends(t, l, "a", "b")
		brings(t, l, packet(7, 5, 1, 0, "x"), packet(5, 7, 0, 1, ""), "x")
		for seq := range uint64(5) {
			brings(t, l, packet(7, peer, seq, 1, "y"), packet(5, 7, 0, 1, ""))
		}
		stands(t, l, 2, 7)
		brings(t, l, packet(7, 5, 3, 0, "z"), packet(5, 7, 0, 1, ""))
		brings(t, l, packet(7, 5, 2, 0, "y"), packet(5, 7, 0, 3, ""), "y", "z")
		brings(t, l, packet(9, peer, 1, 2, "w"), packet(5, 9, 0, 0, ""))
		stands(t, l, 2, 9)
		packets(t, l, packet(5, 9, 1, 0, "a"), packet(5, 9, 2, 0, "b"))
	}
}

// P19.4: data up to a number are acknowledged, but no more than there are.
func TestAcknowledge(t *testing.T) {
	for _, c := range []struct {
		ack  uint64
		open int
	}{
		{0, 4}, {1, 4}, {2, 4}, {3, 3}, {4, 2}, {5, 1}, {6, 0}, {7, 0}, {8, 0}, {18, 0}, {1 << 32, 0}, {1 << 63, 0}, {math.MaxUint64 - 1, 0}, {math.MaxUint64, 0},
	} {
		for seq := range uint64(2) {
			l := met(t)
			sends(t, l, numbered(1, 6)...)
			silent(t, l, packet(7, 5, 0, 2, ""))
			if seq == 0 {
				silent(t, l, packet(7, 5, 0, c.ack, "x"))
			} else {
				brings(t, l, packet(7, 5, 1, c.ack, "x"), packet(5, 7, 0, 1, ""), "x")
			}
			stands(t, l, c.open, 7)
			var want []api.Packet
			for i := 7 - c.open; i <= 6; i++ {
				want = append(want, packet(5, 7, uint64(i), seq, numbered(i, i)[0]))
			}
			packets(t, l, want...)
			sends(t, l, "d7")
			packets(t, l, append(want, packet(5, 7, 7, seq, "d7"))...)
		}
	}
}

// P19.4: an acknowledgement of what wasn't sent yet isn't kept for later.
func TestAcknowledgeAhead(t *testing.T) {
	l := met(t)
	silent(t, l, packet(7, 5, 0, 9, ""))
	sends(t, l, "a")
	packets(t, l, packet(5, 7, 1, 0, "a"))
	silent(t, l, packet(7, 5, 0, 9, ""))
	sends(t, l, "b")
	packets(t, l, packet(5, 7, 2, 0, "b"))
	silent(t, l, packet(7, 5, 0, 1, ""))
	stands(t, l, 1, 7)
	silent(t, l, packet(7, 5, 0, 2, ""))
	stands(t, l, 0, 7)
}

// P19.4: data without a number don't come, and aren't answered.
func TestNoNumber(t *testing.T) {
	l := met(t)
	for range 3 {
		silent(t, l, packet(7, 5, 0, 0, "x"))
	}
	brings(t, l, packet(7, 5, 1, 0, "y"), packet(5, 7, 0, 1, ""), "y")
	silent(t, l, packet(7, 5, 0, 0, "x"))
}

// P19.4: data that are expected, that came already, that come early, and that come too early.
func TestWindow(t *testing.T) {
	for _, expected := range []uint64{1, 2, 30} {
		begun := func() *Link {
			l := met(t)
			for seq := uint64(1); seq < expected; seq++ {
				brings(t, l, packet(7, 5, seq, 0, "ahead"), packet(5, 7, 0, seq, ""), "ahead")
			}
			return l
		}
		for _, far := range []uint64{16, 17, 32, 1 << 32, 1 << 63, math.MaxUint64 - expected} {
			l := begun()
			brings(t, l, packet(7, 5, expected+far, 0, "far"), packet(5, 7, 0, expected-1, ""))
			for seq := expected; seq < expected+20; seq++ {
				brings(t, l, packet(7, 5, seq, 0, "x"), packet(5, 7, 0, seq, ""), "x")
			}
		}
		for near := uint64(1); near < 16; near++ {
			l := begun()
			brings(t, l, packet(7, 5, expected+near, 0, "near"), packet(5, 7, 0, expected-1, ""))
			for seq := expected; seq+1 < expected+near; seq++ {
				brings(t, l, packet(7, 5, seq, 0, "x"), packet(5, 7, 0, seq, ""), "x")
			}
			brings(t, l, packet(7, 5, expected+near-1, 0, "x"), packet(5, 7, 0, expected+near, ""), "x", "near")
		}
		for seq := uint64(1); seq < expected; seq++ {
			l := begun()
			brings(t, l, packet(7, 5, seq, 0, "again"), packet(5, 7, 0, expected-1, ""))
			brings(t, l, packet(7, 5, expected, 0, "x"), packet(5, 7, 0, expected, ""), "x")
		}
	}
}

// P19.4: what came early comes once, in order, up to the first that is missing; of two with one number the first counts.
func TestEarly(t *testing.T) {
	l := met(t)
	none := packet(5, 7, 0, 0, "")
	for _, seq := range []uint64{16, 3, 2, 5, 3, 2} {
		brings(t, l, packet(7, 5, seq, 0, "first"), none)
		brings(t, l, packet(7, 5, seq, 0, "second"), none)
	}
	brings(t, l, packet(7, 5, 17, 0, "far"), none)
	brings(t, l, packet(7, 5, 1, 0, "one"), packet(5, 7, 0, 3, ""), "one", "first", "first")
	brings(t, l, packet(7, 5, 1, 0, "one"), packet(5, 7, 0, 3, ""))
	brings(t, l, packet(7, 5, 3, 0, "third"), packet(5, 7, 0, 3, ""))
	brings(t, l, packet(7, 5, 4, 0, "four"), packet(5, 7, 0, 5, ""), "four", "first")
	for seq := uint64(6); seq < 15; seq++ {
		brings(t, l, packet(7, 5, seq, 0, "x"), packet(5, 7, 0, seq, ""), "x")
	}
	brings(t, l, packet(7, 5, 15, 0, "x"), packet(5, 7, 0, 16, ""), "x", "first")
	brings(t, l, packet(7, 5, 17, 0, "x"), packet(5, 7, 0, 17, ""), "x")
}

// P1: calls of any arguments end.
func TestAnyArguments(t *testing.T) {
	numbers := []uint64{0, 1, 2, 5, 15, 16, 17, 1 << 32, 1 << 63, math.MaxUint64 - 1, math.MaxUint64}
	for _, epoch := range numbers {
		l := New(epoch)
		for _, a := range numbers {
			for _, b := range numbers {
				for _, c := range numbers {
					l.Send(make([]byte, 3))
					l.Receive(packet(a, b, c, a, "x"))
					l.Receive(packet(a, epoch, b, c, "x"))
					l.Receive(packet(l.Peer(), epoch, a, b, ""))
					l.Packets()
					if l.Open() < 0 || l.Open() > 16 {
						t.Fatalf("Open: %d", l.Open())
					}
				}
			}
		}
	}
}
