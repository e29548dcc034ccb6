package net

import (
	"bytes"
	"fmt"
	"slices"
	"strings"
	"testing"

	"argosy/api"
)

// roomy gives data with spare room behind them.
func roomy(data string) []byte {
	return append(slices.Grow([]byte(data), 20), "spare"...)[:len(data)]
}

// spoil writes over data and their spare room.
func spoil(data []byte) {
	copy(data[:cap(data)], strings.Repeat("!", cap(data)))
}

// P20.3: what is sent isn't changed, its spare room neither, whatever becomes of it.
func TestGivenIsLeft(t *testing.T) {
	n, data := New(), roomy("given")
	before := slices.Clone(data[:cap(data)])
	for range 3 {
		if err := n.Send(api.Parcel{Packet: api.Packet{Data: data}}); err != api.OK {
			t.Error(err)
		}
		n.Copy(0)
	}
	n.Drop(0)
	for n.Len() > 0 {
		p, _ := n.Take(0)
		spoil(p.Packet.Data)
	}
	if !bytes.Equal(data[:cap(data)], before) {
		t.Errorf("data were changed: %q", data[:cap(data)])
	}
}

// P20.3: what was sent may be written over.
func TestGivenIsNotKept(t *testing.T) {
	n := New()
	for i := range 3 {
		p := parcel(fmt.Sprint("sent ", i))
		p.Packet.Data = roomy(string(p.Packet.Data))
		n.Send(p)
		spoil(p.Packet.Data)
	}
	n.Copy(1)
	empties(t, n, "sent 0", "sent 1", "sent 2", "sent 1")
}

// P20.3: parcels that are taken are new memory, those that are there more than once, too.
func TestTakenIsNew(t *testing.T) {
	for at := range 4 {
		n := sent(t, "first", "second", "third")
		n.Copy(0)
		n.Copy(0)
		names := []string{"first", "second", "third", "first", "first"}
		p, _ := n.Take(at)
		spoil(p.Packet.Data)
		n.Copy(0)
		n.Copy(n.Len() - 1)
		names = slices.Delete(names, at, at+1)
		empties(t, n, append(names, names[0], names[0])...)
	}
}

// P20.3: a parcel that was taken stays as it is, whatever becomes of the net.
func TestTakenStays(t *testing.T) {
	n := sent(t, "first", "second", "third")
	n.Copy(0)
	p, _ := n.Take(0)
	for _, k := range []int{2, 0, 0} {
		other, _ := n.Take(k)
		spoil(other.Packet.Data)
	}
	sends(t, n, "more!", "other")
	if fmt.Sprint(p) != fmt.Sprint(parcel("first")) {
		t.Errorf("a parcel that was taken has changed: %v", p)
	}
}

// Nothing is kept of parcels that are out.
func TestOutIsGone(t *testing.T) {
	n := sent(t, "a", "b", "c")
	n.Take(1)
	n.Drop(0)
	for _, p := range n.parcels[n.Len():cap(n.parcels)] {
		if p.Packet.Data != nil {
			t.Errorf("%q is kept", p.Packet.Data)
		}
	}
}

// Rule 6: two nets are by themselves.
func TestThingsAreByThemselves(t *testing.T) {
	one, two := sent(t, "a", "b"), New()
	refuses(t, two, 0)
	sends(t, two, "c")
	one.Drop(0)
	two.Copy(0)
	empties(t, one, "b")
	empties(t, two, "c", "c")
}

// P2: two runs of the same calls give the same answers.
func TestSameAnswers(t *testing.T) {
	tell := func() string {
		var told strings.Builder
		next := steps(5)
		n := New()
		for i := range 1000 {
			c := thrown(next, i, n.Len())
			switch c.kind {
			case send:
				told.WriteString(fmt.Sprint(n.Send(c.parcel)))
			case take:
				p, ok := n.Take(c.k)
				told.WriteString(fmt.Sprint(p, ok))
			case drop:
				told.WriteString(fmt.Sprint(n.Drop(c.k)))
			case double:
				told.WriteString(fmt.Sprint(n.Copy(c.k)))
			}
			told.WriteString(fmt.Sprint(n.Len()))
		}
		return told.String()
	}
	first := tell()
	for range 3 {
		if tell() != first {
			t.Error("two runs differ")
		}
	}
}
