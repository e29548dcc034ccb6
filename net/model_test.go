package net

import (
	"fmt"
	"strconv"
	"testing"

	"argosy/api"
)

// model is a net that is kept by the words of the chapter: all parcels that there ever were, and which of them are out.
type model struct {
	all []api.Parcel
	out []bool
}

// at gives the place of the parcel that has a number, or -1.
func (m *model) at(k int) int {
	for i, out := range m.out {
		if out {
			continue
		}
		if k == 0 {
			return i
		}
		k--
	}
	return -1
}

func (m *model) len() int {
	count := 0
	for _, out := range m.out {
		if !out {
			count++
		}
	}
	return count
}

func (m *model) add(p api.Parcel) bool {
	if m.len() >= full {
		return false
	}
	m.all, m.out = append(m.all, p), append(m.out, false)
	return true
}

// take gives the parcel of a number, which is out; what it gives of a number that no parcel has is zero.
func (m *model) take(k int) (api.Parcel, bool) {
	i := m.at(k)
	if k < 0 || i < 0 {
		return api.Parcel{}, false
	}
	m.out[i] = true
	return m.all[i], true
}

func (m *model) copy(k int) bool {
	i := m.at(k)
	return k >= 0 && i >= 0 && m.add(m.all[i])
}

// The kinds of calls.
const (
	send = iota
	take
	drop
	double
	kinds
)

// call is one of a kind, of the parcel of a number, or with a new parcel.
type call struct {
	kind, k int
	parcel  api.Parcel
}

// do does a call to both, and tells whether both answered alike, and have equally many parcels behind it.
func (c call) do(n *Net, m *model) bool {
	alike := false
	switch c.kind {
	case send:
		alike = (n.Send(c.parcel) == api.OK) == m.add(c.parcel)
	case take:
		got, ok := n.Take(c.k)
		want, there := m.take(c.k)
		alike = ok == there && fmt.Sprint(got) == fmt.Sprint(want)
	case drop:
		_, there := m.take(c.k)
		alike = n.Drop(c.k) == there
	case double:
		alike = n.Copy(c.k) == m.copy(c.k)
	}
	return alike && n.Len() == m.len()
}

// drain takes all that is left of both, and tells whether it is the same.
func drain(n *Net, m *model) bool {
	for m.len() > 0 {
		if !(call{kind: take}).do(n, m) {
			return false
		}
	}
	return n.Len() == 0
}

// P20.1, P20.2: all rows of few calls.
func TestAllRowsOfCalls(t *testing.T) {
	var calls []call
	for kind := take; kind < kinds; kind++ {
		for _, k := range []int{-1, 0, 1, 2} {
			calls = append(calls, call{kind: kind, k: k})
		}
	}
	calls = append(calls, call{kind: send})
	const length = 5
	rows := 1
	for range length {
		rows *= len(calls)
	}
	for row := range rows {
		n, m := New(), &model{}
		for i, rest := 0, row; i < length; i, rest = i+1, rest/len(calls) {
			c := calls[rest%len(calls)]
			c.parcel = api.Parcel{From: i}
			if !c.do(n, m) {
				t.Fatalf("row %d, call %d: %v", row, i, c)
			}
		}
		if !drain(n, m) {
			t.Fatalf("row %d: not the same parcels are left", row)
		}
	}
}

// thrown gives a call at or near what is under way.
func thrown(next func(int) int, number, length int) call {
	c := call{kind: next(kinds), k: next(length+3) - 1, parcel: parcel(strconv.Itoa(number))}
	if next(3) == 0 {
		c.kind = send
	}
	return c
}

// P20.1, P20.2: long rows of calls.
func TestLongRows(t *testing.T) {
	next := steps(20)
	for row := range 100 {
		n, m := New(), &model{}
		for i := range 300 {
			if c := thrown(next, i, n.Len()); !c.do(n, m) {
				t.Fatalf("row %d, call %d: %v", row, i, c)
			}
		}
		if !drain(n, m) {
			t.Fatalf("row %d: not the same parcels are left", row)
		}
	}
}

// P20.1, P20.2: long rows of calls of a net that is full, or nearly.
func TestLongRowsFull(t *testing.T) {
	next := steps(4000)
	n, m := crowd(t, full-5), &model{}
	for k := range full - 5 {
		m.add(parcel(fmt.Sprint(k)))
	}
	times := 0
	for i := range 2000 {
		if c := thrown(next, i, n.Len()); !c.do(n, m) {
			t.Fatalf("call %d: %v", i, c)
		}
		if n.Len() == full {
			times++
		}
	}
	if times < 100 {
		t.Errorf("it was full %d times", times)
	}
	if !drain(n, m) {
		t.Error("not the same parcels are left")
	}
}
