package accept

import (
	"math"
	"testing"

	"argosy/api"
)

// P11.1
func TestNew(t *testing.T) {
	stands(t, New[string](), 0)
}

// The chapter's example.
func TestExample(t *testing.T) {
	v := New[string]()
	promises(t, v, 5, 0)
	takes(t, v, vote(0, 4, "x"), false)
	takes(t, v, vote(0, 5, "x"), true)
	promises(t, v, 7, 0, vote(0, 5, "x"))
}

// P11.1: in the places' order, whatever the order of taking, and at each place what came last.
func TestVotes(t *testing.T) {
	v := took(t, vote(63, 1, "last"), vote(7, 1, "seven"), vote(0, 1, "first"), vote(8, 2, ""))
	stands(t, v, 2, vote(0, 1, "first"), vote(7, 1, "seven"), vote(8, 2, ""), vote(63, 1, "last"))
	takes(t, v, vote(7, 2, "another"), true)
	stands(t, v, 2, vote(0, 1, "first"), vote(7, 2, "another"), vote(8, 2, ""), vote(63, 1, "last"))
	takes(t, v, vote(7, 2, "a third"), true)
	takes(t, v, vote(0, 9, "first"), true)
	stands(t, v, 9, vote(0, 9, "first"), vote(7, 2, "a third"), vote(8, 2, ""), vote(63, 1, "last"))
}

// P11.1: all places, taken in an order that goes to and fro, and taken anew.
func TestAllPlaces(t *testing.T) {
	v := New[string]()
	for round := range uint64(3) {
		var want []api.Vote[string]
		for i := range api.MaxLog {
			takes(t, v, vote(i*37%api.MaxLog, round, string('a'+rune(i))), true)
		}
		for i := range api.MaxLog {
			// 45 undoes 37: 37 * 45 is 1 and 26 times 64.
			want = append(want, vote(i, round, string('a'+rune(i*45%api.MaxLog))))
		}
		stands(t, v, round, want...)
		for from := range api.MaxLog {
			promises(t, v, round, from, want[from:]...)
		}
	}
}

// P11.2: ballots that rise, and the same one again.
func TestPromise(t *testing.T) {
	v := New[string]()
	promises(t, v, 0, 0)
	promises(t, v, 0, 0)
	promises(t, v, 1, 0)
	promises(t, v, 1, 0)
	promises(t, v, 1<<63, 0)
	promises(t, v, math.MaxUint64-1, 0)
	promises(t, v, math.MaxUint64, 0)
	promises(t, v, math.MaxUint64, 0)
	refuses(t, v, math.MaxUint64-1, 0)
	stands(t, v, math.MaxUint64)
}

// P11.2: below what is promised nothing is told, and nothing changes.
func TestPromiseRefused(t *testing.T) {
	v := took(t, vote(0, 3, "a"), vote(1, 5, "b"))
	promises(t, v, 9, 0, vote(0, 3, "a"), vote(1, 5, "b"))
	for _, ballot := range []uint64{0, 1, 3, 5, 8} {
		for _, from := range []int{math.MinInt, -1, 0, 1, 63, 64, math.MaxInt} {
			refuses(t, v, ballot, from)
			stands(t, v, 9, vote(0, 3, "a"), vote(1, 5, "b"))
		}
	}
	takes(t, v, vote(2, 8, "c"), false)
	takes(t, v, vote(2, 9, "c"), true)
	promises(t, v, 10, 1, vote(1, 5, "b"), vote(2, 9, "c"))
}

// P11.2: the votes of a place and those behind it, of any place.
func TestPromiseFrom(t *testing.T) {
	votes := []api.Vote[string]{vote(0, 1, "a"), vote(3, 2, "b"), vote(4, 3, "c"), vote(63, 4, "d")}
	v := took(t, votes...)
	for _, c := range []struct{ from, begin int }{
		{math.MinInt, 0}, {-1, 0}, {0, 0}, {1, 1}, {2, 1}, {3, 1}, {4, 2}, {5, 3}, {62, 3}, {63, 3}, {64, 4}, {65, 4}, {math.MaxInt, 4},
	} {
		promises(t, v, 4, c.from, votes[c.begin:]...)
		promises(t, New[string](), 4, c.from)
	}
	stands(t, v, 4, votes...)
}

// P11.3: a vote under a greater ballot promises it, too.
func TestAcceptPromises(t *testing.T) {
	v := New[string]()
	takes(t, v, vote(5, 0, "a"), true)
	stands(t, v, 0, vote(5, 0, "a"))
	takes(t, v, vote(6, 7, "b"), true)
	stands(t, v, 7, vote(5, 0, "a"), vote(6, 7, "b"))
	refuses(t, v, 6, 0)
	takes(t, v, vote(5, 6, "c"), false)
	takes(t, v, vote(5, math.MaxUint64, "d"), true)
	stands(t, v, math.MaxUint64, vote(5, math.MaxUint64, "d"), vote(6, 7, "b"))
	takes(t, v, vote(5, math.MaxUint64-1, "e"), false)
	stands(t, v, math.MaxUint64, vote(5, math.MaxUint64, "d"), vote(6, 7, "b"))
}

// P11.3: what is no place is refused, under whichever ballot, and a ballot below the one that is promised at whichever place.
func TestAcceptRefused(t *testing.T) {
	v := took(t, vote(1, 5, "a"))
	for _, slot := range []int{math.MinInt, -64, -1, 64, 65, 1 << 32, math.MaxInt} {
		for _, ballot := range []uint64{0, 4, 5, 6, math.MaxUint64} {
			takes(t, v, vote(slot, ballot, "x"), false)
			stands(t, v, 5, vote(1, 5, "a"))
		}
	}
	for slot := range api.MaxLog {
		for _, ballot := range []uint64{0, 1, 4} {
			takes(t, v, vote(slot, ballot, "x"), false)
			stands(t, v, 5, vote(1, 5, "a"))
		}
	}
	takes(t, v, vote(63, 5, "b"), true)
	takes(t, v, vote(0, 5, "c"), true)
	stands(t, v, 5, vote(0, 5, "c"), vote(1, 5, "a"), vote(63, 5, "b"))
}

// A promise alone takes nothing, and leaves what was taken under its own ballot.
func TestPromiseTakesNothing(t *testing.T) {
	v := took(t, vote(2, 1, "a"))
	promises(t, v, 8, 3)
	stands(t, v, 8, vote(2, 1, "a"))
	promises(t, v, 8, 0, vote(2, 1, "a"))
	takes(t, v, vote(2, 8, "a"), true)
	promises(t, v, 9, 0, vote(2, 8, "a"))
}

// Voters are by themselves.
func TestVotersAreApart(t *testing.T) {
	a, b := New[string](), New[string]()
	takes(t, a, vote(0, 3, "a"), true)
	promises(t, b, 7, 0)
	takes(t, b, vote(1, 8, "b"), true)
	stands(t, a, 3, vote(0, 3, "a"))
	stands(t, b, 8, vote(1, 8, "b"))
}
