package net

import (
	"fmt"
	"testing"

	"argosy/api"
)

// full is how many parcels there may be under way.
const full = 4000

// parcel gives a parcel all of whose fields hang on its name.
func parcel(name string) api.Parcel {
	n := uint64(0)
	for _, b := range []byte(name) {
		n = n*256 + uint64(b)
	}
	return api.Parcel{
		From:   int(n),
		To:     int(n) + 1,
		Packet: api.Packet{Epoch: n + 2, Peer: n + 3, Seq: n + 4, Ack: n + 5, Data: []byte(name)},
	}
}

// parcels gives parcels by their names.
func parcels(names ...string) []api.Parcel {
	var all []api.Parcel
	for _, name := range names {
		all = append(all, parcel(name))
	}
	return all
}

// sends sends parcels, each of which must be taken.
func sends(t *testing.T, n *Net, names ...string) {
	t.Helper()
	for _, p := range parcels(names...) {
		if err := n.Send(p); err != api.OK {
			t.Errorf("Send of %v: %v", p, err)
		}
	}
}

// sent gives a net with parcels of these names.
func sent(t *testing.T, names ...string) *Net {
	t.Helper()
	n := New()
	sends(t, n, names...)
	return n
}

// crowd gives a net with so many parcels, whose names are their numbers.
func crowd(t *testing.T, count int) *Net {
	t.Helper()
	n := New()
	for k := range count {
		sends(t, n, fmt.Sprint(k))
	}
	return n
}

// takes takes the parcel of a number, and fails, unless it is that of this name.
func takes(t *testing.T, n *Net, k int, name string) {
	t.Helper()
	if got, ok := n.Take(k); !ok || fmt.Sprint(got) != fmt.Sprint(parcel(name)) {
		t.Errorf("Take(%d): %v, %v, want %v", k, got, ok, parcel(name))
	}
}

// long fails, unless so many parcels are under way.
func long(t *testing.T, n *Net, want int) {
	t.Helper()
	if got := n.Len(); got != want {
		t.Errorf("Len: %d, want %d", got, want)
	}
}

// empties takes all parcels, and fails, unless they are those of these names, in order.
func empties(t *testing.T, n *Net, names ...string) {
	t.Helper()
	long(t, n, len(names))
	for _, name := range names {
		takes(t, n, 0, name)
	}
	long(t, n, 0)
}

// refuses fails, unless no parcel has this number, whoever asks.
func refuses(t *testing.T, n *Net, k int) {
	t.Helper()
	p, took := n.Take(k)
	if took || p.From != 0 || p.To != 0 || fmt.Sprint(p) != fmt.Sprint(api.Parcel{}) {
		t.Errorf("Take(%d): %v, %v", k, p, took)
	}
	if n.Drop(k) {
		t.Errorf("Drop(%d): true", k)
	}
	if n.Copy(k) {
		t.Errorf("Copy(%d): true", k)
	}
}

// steps is a row of numbers that looks thrown, and is the same in each run.
func steps(seed uint64) func(below int) int {
	return func(below int) int {
		seed = seed*6364136223846793005 + 1442695040888963407
		return int(seed>>33) % below
	}
}
