package world

import (
	"fmt"
	"testing"

	"argosy/api"
)

// At the beginning, of two regions, b and d are at home in 0, a and c in 1; of three, c and f in 0, a and d in 1, b and e in 2.

// steps is a row of numbers that looks thrown, and is the same in each run.
func steps(seed uint64) func(below int) int {
	return func(below int) int {
		seed = seed*6364136223846793005 + 1442695040888963407
		return int(seed>>33) % below
	}
}

// wants fails, unless a call has answered what it should.
func wants(t *testing.T, call string, got, want api.Errno) {
	t.Helper()
	if got != want {
		t.Fatalf("%s: %v, want %v", call, got, want)
	}
}

// same fails, unless two things are told alike. (So a nil list and an empty one are.)
func same(t *testing.T, what string, got, want any) {
	t.Helper()
	if g, w := fmt.Sprint(got), fmt.Sprint(want); g != w {
		t.Fatalf("%s: %.2000s\nwant %.2000s", what, g, w)
	}
}

// begun gives a world of so many regions and replicas.
func begun(t *testing.T, regions, replicas int) *World {
	t.Helper()
	w, err := New(regions, replicas)
	if w == nil || err != api.OK {
		t.Fatalf("New(%d, %d): %v", regions, replicas, err)
	}
	return w
}

// does lets events happen, none of which may be refused.
func does(t *testing.T, w *World, events ...api.Event) {
	t.Helper()
	for _, e := range events {
		wants(t, fmt.Sprint(e), w.Do(e), api.OK)
	}
}

// refuses fails, unless an event is answered an error.
func refuses(t *testing.T, w *World, e api.Event, want api.Errno) {
	t.Helper()
	wants(t, fmt.Sprint(e), w.Do(e), want)
}

// led gives a world whose only node leads both logs; six events have happened there.
func led(t *testing.T) *World {
	t.Helper()
	w := begun(t, 1, 1)
	does(t, w, lead(0, 0), lead(0, 1), tick(0), tick(0), tick(0), tick(0))
	return w
}

// comeAll lets all parcels come, the first one first.
func comeAll(t *testing.T, w *World) {
	t.Helper()
	for w.Len() > 0 {
		does(t, w, deliver(0))
	}
}

// pickAll lets nodes be fed all that they can.
func pickAll(w *World, nodes ...int) {
	for _, who := range nodes {
		for region := range api.MaxRegions {
			for w.Do(pick(who, region)) == api.OK {
			}
		}
	}
}

// writing gives a transaction that lets keys have a value.
func writing(value string, keys ...string) api.Txn {
	t := api.Txn{Kind: api.TxRun, Writes: keys}
	for _, key := range keys {
		t.Ops = append(t.Ops, api.Op{Kind: api.OpWrite, Key: key, Value: []byte(value)})
	}
	return t
}

// reading gives a transaction that puts out what keys have.
func reading(keys ...string) api.Txn {
	t := api.Txn{Kind: api.TxRun, Reads: keys}
	for _, key := range keys {
		t.Ops = append(t.Ops, api.Op{Kind: api.OpRead, Key: key})
	}
	return t
}

// moving gives a transaction that gives a key another home.
func moving(key string, to int) api.Txn {
	return api.Txn{Kind: api.TxMove, Writes: []string{key}, To: to}
}

// idOf names a submission.
func idOf(node int, epoch, seq uint64) api.Id {
	return api.Id{Node: node, Epoch: epoch, Seq: seq}
}

// has is a result with one value.
func has(value string) api.Result {
	return api.Result{Outs: []api.Out{{Has: true, Value: []byte(value)}}}
}

// The events.

func submit(who int, txn api.Txn) api.Event {
	return api.Event{Kind: api.EvSubmit, Who: who, Txn: txn}
}

func tick(who int) api.Event {
	return api.Event{Kind: api.EvTick, Who: who}
}

func pick(who, region int) api.Event {
	return api.Event{Kind: api.EvPick, Who: who, K: region}
}

func lead(who, group int) api.Event {
	return api.Event{Kind: api.EvLead, Who: who, K: group}
}

func check(who int) api.Event {
	return api.Event{Kind: api.EvCheck, Who: who}
}

func deliver(k int) api.Event {
	return api.Event{Kind: api.EvDeliver, K: k}
}

func lose(k int) api.Event {
	return api.Event{Kind: api.EvDrop, K: k}
}

func double(k int) api.Event {
	return api.Event{Kind: api.EvCopy, K: k}
}

func power(who, changes int) api.Event {
	return api.Event{Kind: api.EvPower, Who: who, K: changes}
}

func crash(who int, keeps ...int) api.Event {
	return api.Event{Kind: api.EvCrash, Who: who, Keeps: keeps}
}

func reopen(who int) api.Event {
	return api.Event{Kind: api.EvOpen, Who: who}
}

func wipe(who int) api.Event {
	return api.Event{Kind: api.EvWipe, Who: who}
}

// each lets a test run with worlds of all sizes.
func each(t *testing.T, seeds int, do func(t *testing.T, seed uint64, regions, replicas int)) {
	for regions := 1; regions <= 3; regions++ {
		for _, replicas := range []int{1, 3} {
			t.Run(fmt.Sprint(regions, replicas), func(t *testing.T) {
				t.Parallel()
				for seed := range uint64(seeds) {
					do(t, seed, regions, replicas)
				}
			})
		}
	}
}
