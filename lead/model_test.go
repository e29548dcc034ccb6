package lead

import (
	"math"
	"slices"
	"strconv"
	"testing"

	"argosy/api"
)

// word is what a voter said, or what was offered: told are a promise's votes, slot is the place of what was taken or offered.
type word struct {
	voter, slot int
	value       string
	told        []api.Vote[string]
}

// model is a leader that is kept by the words of the chapter: all that counted, in its order.
type model struct {
	voters, slot              int
	promises, takes, offering []word
}

// who tells how many voters said a word about a place.
func who(words []word, slot int) int {
	var voters []int
	for _, w := range words {
		if w.slot == slot && !slices.Contains(voters, w.voter) {
			voters = append(voters, w.voter)
		}
	}
	return len(voters)
}

func (m *model) leads() bool {
	return who(m.promises, 0) > m.voters/2
}

func (m *model) promised(voter int, told []api.Vote[string]) {
	before := slices.ContainsFunc(m.promises, func(w word) bool { return w.voter == voter })
	if !m.leads() && voter >= 0 && voter < m.voters && !before {
		m.promises = append(m.promises, word{voter: voter, told: told})
	}
}

// value goes through all promises: a vote of a greater ballot than those ahead of it stands in their place.
func (m *model) value() (string, bool) {
	if !m.leads() || m.slot > 63 {
		return "", false
	}
	var most *api.Vote[string]
	for _, w := range m.promises {
		for i, v := range w.told {
			if v.Slot == m.slot && (most == nil || v.Ballot > most.Ballot) {
				most = &w.told[i]
			}
		}
	}
	if most != nil {
		return most.Value, true
	}
	for _, w := range m.offering {
		if w.slot == m.slot {
			return w.value, true
		}
	}
	return "", false
}

func (m *model) offer(value string) bool {
	if _, ok := m.value(); ok || !m.leads() || m.slot > 63 {
		return false
	}
	m.offering = append(m.offering, word{slot: m.slot, value: value})
	return true
}

func (m *model) taken(voter, slot int) (string, bool) {
	value, ok := m.value()
	if !ok || slot != m.slot || voter < 0 || voter >= m.voters {
		return "", false
	}
	m.takes = append(m.takes, word{voter: voter, slot: slot})
	if who(m.takes, slot) <= m.voters/2 {
		return "", false
	}
	m.slot++
	return value, true
}

// The kinds of calls.
const (
	callPromised = iota
	callOffer
	callTaken
)

type call struct {
	kind int
	word word
}

// do does a call to both, and tells whether both answered alike, and are alike behind it.
func (c call) do(l *Leader[string], m *model) bool {
	w := c.word
	alike := true
	switch c.kind {
	case callPromised:
		l.Promised(w.voter, w.told)
		m.promised(w.voter, w.told)
	case callOffer:
		alike = l.Offer(w.value) == m.offer(w.value)
	case callTaken:
		value, ok := l.Taken(w.voter, w.slot)
		want, may := m.taken(w.voter, w.slot)
		alike = value == want && ok == may
	}
	value, ok := l.Value()
	want, is := m.value()
	return alike && value == want && ok == is && l.Leads() == m.leads() && l.Slot() == m.slot
}

// calls are few voters, places and ballots, in all ways.
func calls(voters int) []call {
	all := []call{{callOffer, word{value: "mine"}}, {callTaken, word{voter: voters, slot: 62}}}
	for voter := range voters {
		for _, told := range [][]api.Vote[string]{
			nil,
			votes(vote(62, 1, strconv.Itoa(voter))),
			votes(vote(62, uint64(voter), "a"), vote(63, uint64(voter), "b")),
		} {
			all = append(all, call{callPromised, word{voter: voter, told: told}})
		}
		for slot := 62; slot <= 64; slot++ {
			all = append(all, call{callTaken, word{voter: voter, slot: slot}})
		}
	}
	return all
}

// P12.1 to P12.4: all rows of few calls at the end of a log.
func TestAllRowsOfCalls(t *testing.T) {
	for voters := 1; voters <= 3; voters++ {
		length := 7 - voters
		all := calls(voters)
		rows := 1
		for range length {
			rows *= len(all)
		}
		for row := range rows {
			l, m := made(t, voters, 62), &model{voters: voters, slot: 62}
			for i, rest := 0, row; i < length; i, rest = i+1, rest/len(all) {
				if c := all[rest%len(all)]; !c.do(l, m) {
					t.Fatalf("%d voters, row %d, call %d: %v", voters, row, i, c)
				}
			}
		}
	}
}

// steps is a row of numbers that looks thrown, and is the same in each run.
func steps(seed uint64) func(below int) int {
	return func(below int) int {
		seed = seed*6364136223846793005 + 1442695040888963407
		return int(seed>>33) % below
	}
}

// thrown gives a call at or near a place.
func thrown(next func(int) int, voters, slot int) call {
	w := word{voter: next(voters+2) - 1, slot: slot, value: strconv.Itoa(next(1000))}
	if next(8) == 0 {
		w.slot += next(5) - 2
	}
	for range next(5) {
		w.told = append(w.told, vote(slot+next(10)-2, uint64(next(4)), strconv.Itoa(next(1000))))
	}
	return call{kind: next(3), word: w}
}

// P12.1 to P12.4: long rows of calls.
func TestLongRows(t *testing.T) {
	next := steps(12)
	ends := 0
	for row := range 400 {
		voters, from := row%9+1, 64-next(12)
		l, m := made(t, voters, from), &model{voters: voters, slot: from}
		for i := range 300 {
			if c := thrown(next, voters, m.slot); !c.do(l, m) {
				t.Fatalf("row %d, call %d: %v", row, i, c)
			}
		}
		if m.slot == 64 {
			ends++
		}
	}
	if ends < 200 {
		t.Errorf("only %d logs were full", ends)
	}
}

// P2: two runs of the same calls give the same answers.
func TestSameAnswers(t *testing.T) {
	run := func() []string {
		next := steps(99)
		l := made(t, 3, 0)
		var told []string
		for range 500 {
			c := thrown(next, 3, l.Slot())
			switch c.kind {
			case callPromised:
				l.Promised(c.word.voter, c.word.told)
			case callOffer:
				l.Offer(c.word.value)
			case callTaken:
				value, _ := l.Taken(c.word.voter, c.word.slot)
				told = append(told, value)
			}
			value, _ := l.Value()
			told = append(told, value, strconv.Itoa(l.Slot()))
		}
		return told
	}
	if !slices.Equal(run(), run()) {
		t.Error("two runs differ")
	}
}

// P1: calls of any arguments end, at leaders that lead and that don't, in the midst of a log and at its end.
func TestAnyArguments(t *testing.T) {
	numbers := []int{math.MinInt, -1, 0, 1, 8, 9, 63, 64, math.MaxInt}
	for _, from := range []int{0, 5, 63, 64} {
		for _, voters := range []int{1, 2, 9} {
			for _, a := range numbers {
				for _, b := range numbers {
					for _, l := range []*Leader[string]{made(t, voters, from), leading(t, voters, from)} {
						l.Promised(a, votes(vote(b, 0, "x"), vote(a, math.MaxUint64, "y"), vote(b, 1, "z")))
						l.Promised(b, nil)
						l.Taken(a, b)
						l.Offer("o")
						l.Taken(b, a)
						l.Taken(a, b)
						l.Value()
						if l.Slot() < from || l.Slot() > 64 {
							t.Fatalf("Slot %d from %d", l.Slot(), from)
						}
					}
				}
			}
		}
	}
}
