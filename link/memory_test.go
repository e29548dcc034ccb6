package link

import (
	"bytes"
	"fmt"
	"slices"
	"strings"
	"testing"

	"argosy/api"
)

// roomy gives data with spare room behind them.
func roomy(data string) []byte {
	return append(slices.Grow([]byte(data), 20), "spare"...)[:len(data)]
}

// spoil writes over data and their spare room.
func spoil(data []byte) {
	copy(data[:cap(data)], strings.Repeat("!", cap(data)))
}

// P19.6: data that are handed in aren't changed, their spare room neither, and aren't kept.
func TestGivenIsLeft(t *testing.T) {
	l := met(t)
	for seq := range uint64(4) {
		data := roomy(fmt.Sprint("given ", seq))
		before := slices.Clone(data[:cap(data)])
		if err := l.Send(data); err != api.OK {
			t.Error(err)
		}
		l.Packets()
		l.Receive(api.Packet{Epoch: 7, Peer: 5, Seq: 3 - seq, Data: data})
		l.Receive(api.Packet{Epoch: 7, Peer: 6, Seq: 3 - seq, Data: data})
		if !bytes.Equal(data[:cap(data)], before) {
			t.Errorf("data were changed: %q", data[:cap(data)])
		}
	}
}

// P19.6: what was sent, and what came early, may be written over.
func TestGivenIsNotKept(t *testing.T) {
	l := met(t)
	for i := range 3 {
		data := roomy(fmt.Sprint("sent ", i))
		l.Send(data)
		spoil(data)
	}
	packets(t, l, packet(5, 7, 1, 0, "sent 0"), packet(5, 7, 2, 0, "sent 1"), packet(5, 7, 3, 0, "sent 2"))
	for seq := uint64(3); seq > 1; seq-- {
		data := roomy(fmt.Sprint("came ", seq))
		l.Receive(api.Packet{Epoch: 7, Peer: 5, Seq: seq, Data: data})
		spoil(data)
	}
	data := roomy("came 1")
	came, _ := l.Receive(api.Packet{Epoch: 7, Peer: 5, Seq: 1, Data: data})
	spoil(data)
	if texts(came) != `["came 1" "came 2" "came 3"]` {
		t.Errorf("what was handed in is kept: %s", texts(came))
	}
}

// P19.6: packets are new memory, each by itself.
func TestPacketsAreNew(t *testing.T) {
	l := met(t)
	sends(t, l, "first", "second", "third")
	want := fmt.Sprint(l.Packets())
	for at := range 3 {
		got, others := l.Packets(), l.Packets()
		spoil(got[at].Data)
		if got[at] = others[at]; fmt.Sprint(got) != want {
			t.Errorf("two packets share memory: %v", got)
		}
		clear(got[:cap(got)])
		if fmt.Sprint(others) != want || fmt.Sprint(l.Packets()) != want {
			t.Errorf("two answers share memory: %v, %v", others, l.Packets())
		}
	}
	silent(t, l, packet(7, 5, 0, 1, ""))
	got := l.Packets()
	silent(t, l, packet(7, 5, 0, 2, ""))
	sends(t, l, "fourth")
	if fmt.Sprint(got) != fmt.Sprint([]api.Packet{packet(5, 7, 2, 0, "second"), packet(5, 7, 3, 0, "third")}) {
		t.Errorf("an answer goes on with the link: %v", got)
	}
}

// P19.6: what is brought, and the answer to it, are new memory, each by itself.
func TestBroughtIsNew(t *testing.T) {
	for at := range 3 {
		l := met(t)
		l.Receive(packet(7, 5, 3, 0, "three"))
		l.Receive(packet(7, 5, 2, 0, "two"))
		given := packet(7, 5, 1, 0, "one")
		came, answers := l.Receive(given)
		spoil(came[at])
		for i, want := range []string{"one", "two", "three"} {
			if i != at && string(came[i]) != want {
				t.Errorf("the data %d and %d share memory", at, i)
			}
		}
		if string(given.Data) != "one" {
			t.Errorf("what is brought shares memory with what was handed in: %q", given.Data)
		}
		clear(came[:cap(came)])
		clear(answers[:cap(answers)])
		brings(t, l, packet(7, 5, 4, 0, "four"), packet(5, 7, 0, 4, ""), "four")
	}
}

// Rule 6: two sides are by themselves.
func TestThingsAreByThemselves(t *testing.T) {
	one, two := New(5), New(5)
	sends(t, one, "x")
	brings(t, one, packet(7, 5, 2, 0, "y"), packet(5, 7, 0, 0, ""))
	stands(t, two, 0, 0)
	packets(t, two)
	brings(t, two, packet(6, 5, 1, 0, "z"), packet(5, 6, 0, 1, ""), "z")
	brings(t, one, packet(7, 5, 1, 0, "w"), packet(5, 7, 0, 2, ""), "w", "y")
}

// P2: two runs of the same calls give the same answers.
func TestSameAnswers(t *testing.T) {
	tell := func() string {
		var told strings.Builder
		next := steps(3)
		l, m := New(5), &model{epoch: 5}
		for i := range 1000 {
			c := thrown(next, m)
			if !c.do(l, m) {
				t.Fatalf("call %d: %v", i, c)
			}
			came, answers := l.Receive(packet(l.Peer(), 5, uint64(m.brought+2), 0, "again"))
			m.receive(packet(l.Peer(), 5, uint64(m.brought+2), 0, "again"))
			told.WriteString(fmt.Sprint(l.Open(), l.Peer(), l.Packets(), texts(came), answers))
		}
		return told.String()
	}
	first := tell()
	for range 3 {
		if tell() != first {
			t.Error("two runs differ")
		}
	}
}
