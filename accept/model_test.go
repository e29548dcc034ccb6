package accept

import (
	"math"
	"slices"
	"strconv"
	"testing"

	"argosy/api"
)

// model is a voter that is kept by the words of the chapter: all that it ever took, in the order of taking.
type model struct {
	promised uint64
	taken    []api.Vote[string]
}

// votes gives, of each place from one on, what was taken there last.
func (m *model) votes(from int) []api.Vote[string] {
	var votes []api.Vote[string]
	for slot := max(from, 0); slot < api.MaxLog; slot++ {
		for i := len(m.taken) - 1; i >= 0; i-- {
			if m.taken[i].Slot == slot {
				votes = append(votes, m.taken[i])
				break
			}
		}
	}
	return votes
}

func (m *model) promise(ballot uint64, from int) ([]api.Vote[string], bool) {
	if ballot < m.promised {
		return nil, false
	}
	m.promised = ballot
	return m.votes(from), true
}

func (m *model) accept(x api.Vote[string]) bool {
	if x.Ballot < m.promised || x.Slot < 0 || x.Slot > 63 {
		return false
	}
	m.promised = x.Ballot
	m.taken = append(m.taken, x)
	return true
}

// call is a promise that is asked for, or a vote; of a promise Slot is the place from which on it tells.
type call struct {
	isVote bool
	vote   api.Vote[string]
}

// do does a call to both, and tells whether both answered alike, and are alike behind it.
func (c call) do(v *Voter[string], m *model) bool {
	if c.isVote {
		if v.Accept(c.vote) != m.accept(c.vote) {
			return false
		}
	} else {
		votes, ok := v.Promise(c.vote.Ballot, c.vote.Slot)
		want, may := m.promise(c.vote.Ballot, c.vote.Slot)
		if ok != may || !slices.Equal(votes, want) {
			return false
		}
	}
	return v.Promised() == m.promised && slices.Equal(v.Votes(), m.votes(0))
}

// calls are few ballots and places, in all ways.
func calls() []call {
	var all []call
	for ballot := range uint64(3) {
		for _, slot := range []int{0, 63} {
			all = append(all, call{vote: vote(slot, ballot, "")})
		}
		for _, slot := range []int{-1, 0, 63, 64} {
			all = append(all, call{isVote: true, vote: vote(slot, ballot, "")})
		}
	}
	return all
}

// P11.1 to P11.3: all rows of four calls.
func TestAllRowsOfCalls(t *testing.T) {
	const length = 4
	all := calls()
	rows := 1
	for range length {
		rows *= len(all)
	}
	for row := range rows {
		v, m := New[string](), &model{}
		for i, rest := 0, row; i < length; i, rest = i+1, rest/len(all) {
			c := all[rest%len(all)]
			c.vote.Value = strconv.Itoa(i)
			if !c.do(v, m) {
				t.Fatalf("row %d, call %d: %v", row, i, c)
			}
		}
	}
}

// longRow gives many calls at many places, whose ballots go up slowly, with some below and some far out.
func longRow() []call {
	var row []call
	for i := range 3000 {
		slot := i*i%71 - 3
		ballot := uint64(i/7 + i*i%5)
		row = append(row, call{isVote: i%4 > 0, vote: vote(slot, ballot, strconv.Itoa(i))})
	}
	return row
}

// P11.1 to P11.3: a long row of calls.
func TestLongRow(t *testing.T) {
	v, m := New[string](), &model{}
	for i, c := range longRow() {
		if !c.do(v, m) {
			t.Fatalf("call %d: %v", i, c)
		}
	}
	if len(v.Votes()) < 30 {
		t.Errorf("only %d places were taken", len(v.Votes()))
	}
}

// P2: two runs of the same calls give the same answers.
func TestSameAnswers(t *testing.T) {
	run := func() []api.Vote[string] {
		v := New[string]()
		var told []api.Vote[string]
		for _, c := range longRow() {
			if c.isVote {
				v.Accept(c.vote)
			} else {
				votes, _ := v.Promise(c.vote.Ballot, c.vote.Slot)
				told = append(told, votes...)
			}
		}
		return append(told, v.Votes()...)
	}
	if !slices.Equal(run(), run()) {
		t.Error("two runs differ")
	}
}

// P1: calls of any arguments end, at voters that have taken nothing, something, and everything.
func TestAnyArguments(t *testing.T) {
	for _, places := range []int{0, 1, api.MaxLog} {
		for _, slot := range []int{math.MinInt, -1, 0, 1, 63, 64, math.MaxInt} {
			for _, ballot := range []uint64{0, 1, 1 << 63, math.MaxUint64} {
				v := New[string]()
				for place := range places {
					v.Accept(vote(place, 0, ""))
				}
				v.Promise(ballot, slot)
				v.Accept(vote(slot, ballot, ""))
				v.Promise(ballot-1, -slot)
				v.Accept(vote(-slot, ballot+1, ""))
				v.Votes()
				v.Promised()
			}
		}
	}
}
