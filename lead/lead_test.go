package lead

import (
	"math"
	"slices"
	"strconv"
	"testing"

	"argosy/api"
)

// The chapter's example.
func TestExample(t *testing.T) {
	l := made(t, 3, 0)
	l.Promised(0, nil)
	l.Promised(2, votes(vote(0, 4, "x")))
	busy(t, l, 0, "x")
	counts(t, l, 1, 0)
	chooses(t, l, 0, 0, "x")
	idle(t, l, 1, true)
}

// P12.1: all that is allowed, under any ballot.
func TestNew(t *testing.T) {
	for _, ballot := range []uint64{0, 1, 1 << 63, math.MaxUint64} {
		for voters := 1; voters <= 9; voters++ {
			for from := range 65 {
				l, err := New[string](ballot, voters, from)
				if err != api.OK || l == nil {
					t.Fatalf("New(%d, %d, %d): %v, %v", ballot, voters, from, l, err)
				}
				idle(t, l, from, false)
			}
		}
	}
}

// P12.1: what isn't.
func TestNewRefused(t *testing.T) {
	refused := func(voters, from int) {
		if l, err := New[string](1, voters, from); l != nil || err != api.ErrArg {
			t.Errorf("New(1, %d, %d): %v, %v", voters, from, l, err)
		}
	}
	for _, voters := range []int{math.MinInt, -9, -1, 0, 10, 11, 64, math.MaxInt} {
		for _, from := range []int{math.MinInt, -1, 0, 1, 64, 65, math.MaxInt} {
			refused(voters, from)
		}
	}
	for _, from := range []int{math.MinInt, -64, -1, 65, 66, math.MaxInt} {
		for voters := 1; voters <= 9; voters++ {
			refused(voters, from)
		}
	}
}

// P12.1: its calls don't look at the ballot: promises count that tell of greater ones.
func TestBallotIsNotLookedAt(t *testing.T) {
	for _, ballot := range []uint64{0, 5, math.MaxUint64} {
		l, _ := New[string](ballot, 3, 7)
		l.Promised(1, votes(vote(7, 5, "five")))
		l.Promised(2, votes(vote(7, 6, "six")))
		busy(t, l, 7, "six")
		counts(t, l, 1, 7)
		chooses(t, l, 2, 7, "six")
	}
}

// P12.2: more than half of the voters are enough, whichever they are.
func TestEnoughPromise(t *testing.T) {
	enough := []int{1: 1, 2: 2, 3: 2, 4: 3, 5: 3, 6: 4, 7: 4, 8: 5, 9: 5}
	for voters := 1; voters <= 9; voters++ {
		for first := range voters {
			l := made(t, voters, 3)
			for i := range voters {
				idle(t, l, 3, i >= enough[voters])
				l.Promised((first+i)%voters, nil)
			}
			idle(t, l, 3, true)
		}
	}
}

// P12.2: a voter's promise counts once, and a promise of nobody never.
func TestPromiseCountsOnce(t *testing.T) {
	l := made(t, 5, 0)
	l.Promised(4, nil)
	l.Promised(0, nil)
	for _, voter := range []int{math.MinInt, -5, -1, 0, 4, 5, 6, 9, math.MaxInt, 0, 4} {
		l.Promised(voter, nil)
		idle(t, l, 0, false)
	}
	l.Promised(2, nil)
	idle(t, l, 0, true)
}

// P12.2: what is told doesn't matter, unless the promise counts.
func TestVotesThatDoNotCount(t *testing.T) {
	l := made(t, 3, 0)
	l.Promised(1, votes(vote(0, 3, "a")))
	l.Promised(1, votes(vote(0, 4, "again"), vote(1, 4, "again")))
	l.Promised(3, votes(vote(0, 4, "nobody"), vote(1, 4, "nobody")))
	l.Promised(-1, votes(vote(0, 4, "nobody"), vote(1, 4, "nobody")))
	l.Promised(0, nil)
	busy(t, l, 0, "a")
	l.Promised(2, votes(vote(0, 4, "late"), vote(1, 4, "late")))
	busy(t, l, 0, "a")
	counts(t, l, 0, 0)
	chooses(t, l, 1, 0, "a")
	idle(t, l, 1, true)
	l.Promised(2, votes(vote(1, 4, "late")))
	idle(t, l, 1, true)
}

// P12.2: the vote that counts most, and of two that count the same the one that was told first: by all orders of telling.
func TestMostCounts(t *testing.T) {
	for _, ballots := range [][]uint64{
		{0}, {1, 0}, {0, 0}, {2, 2, 1}, {1, 2, 2}, {2, 1, 2}, {3, 2, 1}, {1, 3, 2}, {1, 2, 3},
		{1 << 63, math.MaxUint64, 1}, {math.MaxUint64, math.MaxUint64 - 1, math.MaxUint64}, {1<<63 - 1, 1 << 63, 0},
	} {
		var told []api.Vote[string]
		for i, ballot := range ballots {
			told = append(told, vote(9, ballot, strconv.Itoa(i)))
		}
		want := strconv.Itoa(slices.Index(ballots, slices.Max(ballots)))
		busy(t, leading(t, 5, 9, told), 9, want)
		var apart [][]api.Vote[string]
		for _, v := range told {
			apart = append(apart, votes(v))
		}
		busy(t, leading(t, 5, 9, apart...), 9, want)
		busy(t, leading(t, 5, 9, nil, told[:1], told[1:]), 9, want)
	}
}

// P12.2: each place by itself, in any order of telling.
func TestPlacesByThemselves(t *testing.T) {
	l := leading(t, 3, 1,
		votes(vote(3, 1, "c"), vote(1, 8, "a")),
		votes(vote(2, 2, "b"), vote(1, 7, "x"), vote(3, 2, "d")))
	for i, want := range []string{"a", "b", "d"} {
		slot := 1 + i
		busy(t, l, slot, want)
		offers(t, l, "other", false)
		counts(t, l, 2, slot)
		chooses(t, l, 0, slot, want)
	}
	idle(t, l, 4, true)
}

// P12.2: of what stands ahead of the first place, and of what is no place, nothing comes under way.
func TestVotesOfOtherPlaces(t *testing.T) {
	told := votes(vote(math.MinInt, 9, "x"), vote(-1, 9, "x"), vote(0, 9, "x"), vote(61, 9, "x"),
		vote(64, 9, "x"), vote(65, 9, "x"), vote(math.MaxInt, 9, "x"))
	l := leading(t, 1, 62, told)
	for slot := 62; slot < 64; slot++ {
		idle(t, l, slot, true)
		offers(t, l, "mine", true)
		chooses(t, l, 0, slot, "mine")
	}
	full(t, l)
	full(t, leading(t, 3, 64, told, told))
}

// full fails, unless nothing comes under way any more.
func full(t *testing.T, l *Leader[string]) {
	t.Helper()
	for _, slot := range []int{0, 62, 63, 64, 65} {
		idle(t, l, 64, true)
		offers(t, l, "x", false)
		for voter := range 9 {
			counts(t, l, voter, slot)
		}
	}
	idle(t, l, 64, true)
}

// P12.3: nothing is under way, and nothing is offered, until it leads.
func TestNothingAheadOfLeading(t *testing.T) {
	l := made(t, 3, 0)
	idle(t, l, 0, false)
	offers(t, l, "x", false)
	l.Promised(0, votes(vote(0, 1, "a")))
	idle(t, l, 0, false)
	offers(t, l, "x", false)
	counts(t, l, 0, 0)
	counts(t, l, 1, 0)
	l.Promised(1, nil)
	busy(t, l, 0, "a")
	offers(t, l, "x", false)
	counts(t, l, 2, 0)
	chooses(t, l, 1, 0, "a")
	idle(t, l, 1, true)
	offers(t, l, "", true)
	busy(t, l, 1, "")
}

// P12.3: an offer stays until it is chosen, an empty one, too.
func TestOffer(t *testing.T) {
	for _, value := range []string{"mine", ""} {
		l := leading(t, 2, 10)
		idle(t, l, 10, true)
		offers(t, l, value, true)
		busy(t, l, 10, value)
		offers(t, l, "other", false)
		offers(t, l, value, false)
		counts(t, l, 1, 10)
		offers(t, l, "other", false)
		busy(t, l, 10, value)
		chooses(t, l, 0, 10, value)
		idle(t, l, 11, true)
	}
}

// P12.3: offers stand where promises told of nothing, also between what they told of.
func TestOffersBetween(t *testing.T) {
	l := leading(t, 1, 60, votes(vote(63, 1, "last"), vote(61, 0, "")))
	want := []string{"mine", "", "other", "last"}
	for i, value := range want {
		offers(t, l, value, i%2 == 0)
		busy(t, l, 60+i, value)
		chooses(t, l, 0, 60+i, value)
	}
	full(t, l)
}

// P12.4: more than half must have taken it, whichever they are, each counting once.
func TestEnoughTake(t *testing.T) {
	enough := []int{1: 1, 2: 2, 3: 2, 4: 3, 5: 3, 6: 4, 7: 4, 8: 5, 9: 5}
	for voters := 1; voters <= 9; voters++ {
		l := leading(t, voters, 0)
		for slot := range voters {
			offers(t, l, strconv.Itoa(slot), true)
			for i := range enough[voters] - 1 {
				counts(t, l, (slot+i)%voters, slot)
				counts(t, l, (slot+i)%voters, slot)
				counts(t, l, slot%voters, slot)
			}
			chooses(t, l, (slot+enough[voters]-1)%voters, slot, strconv.Itoa(slot))
			idle(t, l, slot+1, true)
		}
	}
}

// P12.4: what says nothing of what is under way leaves all as it is.
func TestTakenThatDoesNotCount(t *testing.T) {
	l := leading(t, 3, 4)
	for _, slot := range []int{4, 3, 5} {
		for voter := range 3 {
			counts(t, l, voter, slot)
		}
	}
	offers(t, l, "x", true)
	counts(t, l, 0, 4)
	for _, voter := range []int{math.MinInt, -1, 3, 4, math.MaxInt, 0} {
		counts(t, l, voter, 4)
	}
	for _, slot := range []int{math.MinInt, -1, 0, 3, 5, 63, 64, math.MaxInt} {
		for voter := range 3 {
			counts(t, l, voter, slot)
		}
	}
	busy(t, l, 4, "x")
	chooses(t, l, 1, 4, "x")
}

// P12.4: nobody has taken anything at the next place, however late its word of the last one comes, and whatever is under way there.
func TestNextPlaceIsNew(t *testing.T) {
	l := leading(t, 5, 0, votes(vote(0, 1, "a"), vote(1, 1, "b")))
	counts(t, l, 0, 0)
	counts(t, l, 1, 0)
	chooses(t, l, 2, 0, "a")
	for voter := range 5 {
		counts(t, l, voter, 0)
	}
	busy(t, l, 1, "b")
	counts(t, l, 1, 1)
	counts(t, l, 2, 1)
	chooses(t, l, 4, 1, "b")
	for voter := range 5 {
		counts(t, l, voter, 1)
		counts(t, l, voter, 2)
	}
	offers(t, l, "c", true)
	counts(t, l, 3, 2)
	counts(t, l, 0, 2)
	chooses(t, l, 4, 2, "c")
}

// A whole log, one place after the other.
func TestWholeLog(t *testing.T) {
	l := leading(t, 3, 0)
	for slot := range 64 {
		idle(t, l, slot, true)
		offers(t, l, strconv.Itoa(slot), true)
		counts(t, l, slot%3, slot)
		chooses(t, l, (slot+1)%3, slot, strconv.Itoa(slot))
	}
	full(t, l)
}

// Leaders are by themselves.
func TestLeadersAreApart(t *testing.T) {
	a, b := leading(t, 3, 0, votes(vote(1, 1, "later"))), made(t, 3, 0)
	idle(t, b, 0, false)
	offers(t, a, "a", true)
	b.Promised(2, nil)
	idle(t, b, 0, false)
	b.Promised(0, nil)
	idle(t, b, 0, true)
	counts(t, a, 0, 0)
	offers(t, b, "b", true)
	counts(t, b, 1, 0)
	chooses(t, a, 1, 0, "a")
	chooses(t, b, 0, 0, "b")
	idle(t, b, 1, true)
	busy(t, a, 1, "later")
}
