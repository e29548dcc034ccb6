package net

import (
	"fmt"
	"math"
	"testing"

	"argosy/api"
)

// P20.1: a net without parcels.
func TestNew(t *testing.T) {
	n := New()
	long(t, n, 0)
	refuses(t, n, 0)
	sends(t, n, "a")
	empties(t, n, "a")
}

// Chapter 20's example.
func TestExample(t *testing.T) {
	n := sent(t, "a", "b")
	if !n.Copy(0) {
		t.Error("Copy of 0: false")
	}
	long(t, n, 3)
	takes(t, n, 0, "a")
	empties(t, n, "b", "a")
}

// P20.1: each parcel is behind all others.
func TestSend(t *testing.T) {
	n := New()
	for i, name := range []string{"a", "b", "a", "c", "b"} {
		long(t, n, i)
		sends(t, n, name)
	}
	empties(t, n, "a", "b", "a", "c", "b")
	sends(t, n, "d", "e")
	empties(t, n, "d", "e")
}

// P20.1: a parcel may be any, and comes as it was sent.
func TestAnyParcel(t *testing.T) {
	for _, p := range []api.Parcel{
		{},
		{From: math.MinInt, To: math.MaxInt},
		{From: -1, To: 9},
		{From: 3, To: 3},
		{Packet: api.Packet{Data: []byte{}}},
		{Packet: api.Packet{Data: []byte{0, 255}}},
		{Packet: api.Packet{Data: make([]byte, 1000000)}},
		{Packet: api.Packet{Epoch: math.MaxUint64, Peer: math.MaxUint64 - 1, Seq: math.MaxUint64 - 2, Ack: math.MaxUint64 - 3}},
	} {
		n := New()
		if err := n.Send(p); err != api.OK {
			t.Errorf("Send: %v", err)
		}
		if !n.Copy(0) {
			t.Error("Copy: false")
		}
		for range 2 {
			if got, ok := n.Take(0); !ok || fmt.Sprint(got) != fmt.Sprint(p) {
				t.Errorf("another parcel comes than was sent: %d to %d", got.From, got.To)
			}
		}
	}
}

// P20.2: a number that no parcel has; nothing changes.
func TestNoSuchNumber(t *testing.T) {
	for count, names := range [][]string{{}, {"a"}, {"a", "b"}, {"a", "b", "c"}} {
		for _, k := range []int{math.MinInt, math.MinInt + 1, -count - 1, -count, -2, -1, count, count + 1, 2*count + 1, full, math.MaxInt32, math.MaxInt - 1, math.MaxInt} {
			if k >= 0 && k < count {
				continue
			}
			n := sent(t, names...)
			refuses(t, n, k)
			empties(t, n, names...)
			refuses(t, n, k)
		}
	}
}

// P20.2: a parcel that is taken out, wherever it stands; those behind it have numbers one less.
func TestTake(t *testing.T) {
	n := sent(t, "a", "b", "c", "d")
	takes(t, n, 1, "b")
	long(t, n, 3)
	takes(t, n, 1, "c")
	refuses(t, n, 2)
	takes(t, n, 1, "d")
	refuses(t, n, 1)
	takes(t, n, 0, "a")
	refuses(t, n, 0)
	n = sent(t, "a", "b", "c", "d")
	takes(t, n, 3, "d")
	sends(t, n, "e")
	takes(t, n, 3, "e")
	takes(t, n, 0, "a")
	empties(t, n, "b", "c")
}

// P20.2: a parcel that is lost.
func TestDrop(t *testing.T) {
	for k, want := range [][]string{{"b", "c", "d"}, {"a", "c", "d"}, {"a", "b", "d"}, {"a", "b", "c"}} {
		n := sent(t, "a", "b", "c", "d")
		if !n.Drop(k) {
			t.Errorf("Drop(%d): false", k)
		}
		refuses(t, n, 3)
		empties(t, n, want...)
	}
	n := sent(t, "a")
	if !n.Drop(0) || n.Drop(0) {
		t.Error("one parcel is lost twice, or never")
	}
	empties(t, n)
}

// P20.2: a parcel that is there once more, and once more again.
func TestCopy(t *testing.T) {
	for k, name := range []string{"a", "b", "c"} {
		n := sent(t, "a", "b", "c")
		if !n.Copy(k) {
			t.Errorf("Copy(%d): false", k)
		}
		long(t, n, 4)
		takes(t, n, 3, name)
		if !n.Copy(k) || !n.Copy(3) || !n.Copy(0) {
			t.Error("Copy: false")
		}
		empties(t, n, "a", "b", "c", name, name, "a")
	}
}

// P20.1, P20.2: as many parcels as there may be, sent or doubled.
func TestFull(t *testing.T) {
	n := crowd(t, full-1)
	if !n.Copy(7) {
		t.Error("Copy of the last one that there is room for: false")
	}
	overfull(t, n)
	takes(t, n, full-1, "7")
	sends(t, n, "last")
	overfull(t, n)
	if !n.Drop(0) {
		t.Error("Drop: false")
	}
	sends(t, n, "more")
	overfull(t, n)
	takes(t, n, 1, "2")
	takes(t, n, 0, "1")
	if !n.Copy(0) {
		t.Error("Copy: false")
	}
	sends(t, n, "end")
	overfull(t, n)
	for k := 3; k < full-1; k++ {
		takes(t, n, 0, fmt.Sprint(k))
	}
	empties(t, n, "last", "more", "3", "end")
}

// overfull fails, unless there is no room in a net for one more.
func overfull(t *testing.T, n *Net) {
	t.Helper()
	for range 2 {
		if err := n.Send(parcel("one more")); err != api.ErrFull {
			t.Errorf("Send: %v", err)
		}
		for _, k := range []int{-1, 0, 1, full / 2, full - 1, full, full + 1} {
			if n.Copy(k) {
				t.Errorf("Copy(%d): true", k)
			}
		}
		long(t, n, full)
	}
}
