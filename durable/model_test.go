package durable

import (
	"fmt"
	"math"
	"slices"
	"strings"
	"testing"

	"argosy/api"
	"argosy/disk"
)

// model is a disk and its keeper, kept by the words of the chapter: all that was written, and where the present life is.
type model struct {
	hasLife bool
	last    uint64
	voter   bool
	records map[int][]record
	state   *string

	groups []int // of the present life
	epoch  uint64
	votes  bool // its node is a voter
}

// record is a promise, or a vote.
type record struct {
	isVote bool
	vote   api.Vote[string]
}

func newModel() *model {
	return &model{records: map[int][]record{}}
}

func (m *model) format() api.Errno {
	m.hasLife, m.last, m.voter = true, 0, true
	return api.OK
}

func (m *model) open(groups []int, clock uint64) api.Errno {
	times := [4]int{}
	for _, group := range groups {
		if len(groups) > 2 || group < 0 || group > 3 || times[group] == 1 {
			return api.ErrArg
		}
		times[group]++
	}
	if clock == math.MaxUint64 || m.hasLife && m.last == math.MaxUint64 {
		return api.ErrOver
	}
	if !m.hasLife {
		m.last, m.voter = 0, false
	}
	m.hasLife, m.last = true, max(m.last, clock)+1
	m.epoch, m.votes, m.groups = m.last, m.voter, groups
	return api.OK
}

func (m *model) promised(group int) uint64 {
	ballot := uint64(0)
	if slices.Contains(m.groups, group) {
		for _, r := range m.records[group] {
			ballot = max(ballot, r.vote.Ballot)
		}
	}
	return ballot
}

func (m *model) promise(group int, ballot uint64, from int) ([]api.Vote[string], bool) {
	if !m.votes || !slices.Contains(m.groups, group) || ballot < m.promised(group) {
		return nil, false
	}
	m.records[group] = append(m.records[group], record{vote: vote(0, ballot, "")})
	var votes []api.Vote[string]
	for slot := max(from, 0); slot < 64; slot++ {
		all := m.records[group]
		for i := len(all) - 1; i >= 0; i-- {
			if all[i].isVote && all[i].vote.Slot == slot {
				votes = append(votes, all[i].vote)
				break
			}
		}
	}
	return votes, true
}

func (m *model) accept(group int, v api.Vote[string]) (bool, api.Errno) {
	if !m.votes || !slices.Contains(m.groups, group) || v.Ballot < m.promised(group) || v.Slot < 0 || v.Slot > 63 {
		return false, api.OK
	}
	if len(v.Value) > 4000 {
		return false, api.ErrArg
	}
	m.records[group] = append(m.records[group], record{isVote: true, vote: v})
	return true, api.OK
}

// subject is a disk with its keeper.
type subject struct {
	d *disk.Disk
	k *Keeper
}

// The kinds of calls.
const (
	format = iota
	open
	promise
	accepting
	save
	kinds
)

// call is one of a kind; an opening is behind a crash that keeps nothing.
type call struct {
	kind   int
	groups []int
	clock  uint64
	group  int
	vote   api.Vote[string] // of a promise: Ballot, and Slot as the place from which on it tells
}

// do does a call to both, and tells what each answered, and is then.
func (c call) do(s *subject, m *model) (string, string) {
	var got, want string
	switch c.kind {
	case format:
		got, want = fmt.Sprint(Format(s.d)), fmt.Sprint(m.format())
	case open:
		s.d = s.d.Crash(nil)
		k, err := Open(s.d, c.groups, c.clock)
		got, want = fmt.Sprint(k != nil, err), fmt.Sprint(true, m.open(c.groups, c.clock))
		if err != api.OK {
			want = strings.Replace(want, "true", "false", 1)
			// The elder keeper's disk is gone: a life of both is begun that goes on.
			Format(s.d)
			m.format()
			k, _ = Open(s.d, []int{0, 3}, 0)
			m.open([]int{0, 3}, 0)
		}
		s.k = k
	case promise:
		votes, ok, err := s.k.Promise(c.group, c.vote.Ballot, c.vote.Slot)
		got = fmt.Sprint(votes, ok, err)
		votes, ok = m.promise(c.group, c.vote.Ballot, c.vote.Slot)
		want = fmt.Sprint(votes, ok, api.OK)
	case accepting:
		got = fmt.Sprint(s.k.Accept(c.group, c.vote))
		want = fmt.Sprint(m.accept(c.group, c.vote))
	case save:
		got = fmt.Sprint(s.k.Save([]byte(c.vote.Value)))
		want, m.state = fmt.Sprint(api.OK), &c.vote.Value
	}
	return got + s.tell(), want + m.tell()
}

func (s *subject) tell() string {
	var told strings.Builder
	state, err := s.k.Load()
	fmt.Fprint(&told, " ", s.k.Epoch(), s.k.Voter(), string(state), err)
	for group := -1; group < 5; group++ {
		fmt.Fprint(&told, " ", s.k.Promised(group))
	}
	return told.String()
}

func (m *model) tell() string {
	var told strings.Builder
	state, err := "", api.ErrNoFile
	if m.state != nil {
		state, err = *m.state, api.OK
	}
	fmt.Fprint(&told, " ", m.epoch, m.votes, state, err)
	for group := -1; group < 5; group++ {
		fmt.Fprint(&told, " ", m.promised(group))
	}
	return told.String()
}

// begun gives a new disk, and its model, in the first life of groups 0 and 3.
func begun(t *testing.T, voter bool) (*subject, *model) {
	t.Helper()
	s, m := &subject{d: newDisk(t)}, newModel()
	if voter {
		wants(t, "Format", Format(s.d), m.format())
	}
	s.k = opened(t, s.d, 0, 3)
	m.open([]int{0, 3}, 0)
	return s, m
}

// few gives calls that are about few ballots and places.
func few() []call {
	all := []call{
		{kind: format},
		{kind: open, groups: []int{3, 0}},
		{kind: open, groups: []int{1, 3}, clock: 1},
		{kind: open, clock: math.MaxUint64},
		{kind: open, groups: []int{3, 3}},
		{kind: save, vote: vote(0, 0, "state")},
	}
	for ballot := range uint64(3) {
		all = append(all,
			call{kind: promise, group: 3, vote: vote(0, ballot, "")},
			call{kind: promise, group: 1, vote: vote(1, ballot, "")},
			call{kind: accepting, group: 3, vote: vote(0, ballot, "x")},
			call{kind: accepting, group: 3, vote: vote(63, ballot, "y")},
		)
	}
	return append(all,
		call{kind: accepting, group: 1, vote: vote(0, 1, "z")},
		call{kind: accepting, group: 3, vote: vote(64, 2, "")},
		call{kind: accepting, group: 3, vote: vote(0, 2, long(4001))},
		call{kind: promise, group: 2, vote: vote(0, 9, "")},
	)
}

// P22.1 to P22.6: all rows of few calls, of which the last ones ask for all that is kept.
func TestAllRowsOfCalls(t *testing.T) {
	calls := few()
	const length = 3
	rows := 1
	for range length {
		rows *= len(calls)
	}
	asks := []call{
		{kind: promise, group: 3, vote: vote(0, 2, "")},
		{kind: open, groups: []int{3, 1}},
		{kind: promise, group: 3, vote: vote(0, 2, "")},
		{kind: promise, group: 1, vote: vote(0, 2, "")},
	}
	for row := range rows {
		s, m := begun(t, row%2 == 0)
		for i, rest := 0, row/2; i < length+len(asks); i, rest = i+1, rest/len(calls) {
			c := calls[rest%len(calls)]
			if i >= length {
				c = asks[i-length]
			}
			if got, want := c.do(s, m); got != want {
				t.Fatalf("row %d, call %d: %v:\n%s, want\n%s", row, i, c, got, want)
			}
		}
	}
}

// thrown gives a call that is at or near what is promised.
func thrown(next func(int) int, m *model) call {
	all := [][]int{{0, 3}, {3, 0}, {1, 3}, {0}, {2, 1}, {3, 1}, {0, 3}, {3}, {}, {0, 1, 2}, {1, 1}, {4}, {-1, 0}}
	c := call{kind: next(kinds), groups: all[next(len(all))], clock: uint64(next(200)), group: next(6) - 1}
	if c.kind == format && next(4) > 0 || c.kind == open && next(3) > 0 {
		c.kind = accepting
	}
	if c.kind == open && next(20) == 0 {
		c.clock = math.MaxUint64 - uint64(next(2))
	}
	ballot := m.promised(c.group) + uint64(next(4))
	if ballot > 0 && next(3) == 0 {
		ballot--
	}
	c.vote = vote(next(68)-2, ballot, strings.Repeat(string('a'+rune(next(26))), next(40)))
	if next(30) == 0 {
		c.vote.Value = long(3999 + next(3))
	}
	return c
}

// P22.1 to P22.6: long rows of calls.
func TestLongRows(t *testing.T) {
	for seed := range uint64(40) {
		next := steps(seed)
		s, m := begun(t, seed%8 > 0)
		for i := range 400 {
			c := thrown(next, m)
			if got, want := c.do(s, m); got != want {
				t.Fatalf("seed %d, call %d: %v:\n%s, want\n%s", seed, i, c, got, want)
			}
		}
	}
}

// P2: two runs of the same calls give the same answers, and leave the same files.
func TestSameAnswers(t *testing.T) {
	run := func() string {
		var told strings.Builder
		next := steps(99)
		s, m := begun(t, true)
		for range 300 {
			got, _ := thrown(next, m).do(s, m)
			told.WriteString(got)
		}
		for _, name := range s.d.Names() {
			data, _ := s.d.Read(name)
			told.WriteString(name + string(data))
		}
		return told.String()
	}
	first := run()
	for range 3 {
		if run() != first {
			t.Error("two runs differ")
		}
	}
}

// P1: all arguments, whatever they are, on a disk that is up and on one that goes down.
func TestAnyArguments(t *testing.T) {
	for limit := -1; limit < 12; limit++ {
		d, k := formatted(t)
		d.Limit(limit)
		for _, group := range []int{math.MinInt, -1, 0, 1, 3, 4, math.MaxInt} {
			for _, slot := range []int{math.MinInt, -1, 0, 63, 64, math.MaxInt} {
				for _, ballot := range []uint64{0, 1, 1 << 63, math.MaxUint64} {
					for _, value := range []string{"", "\xff", long(4000), long(4001), long(1 << 20)} {
						k.Promise(group, ballot, slot)
						k.Accept(group, vote(slot, ballot, value))
						k.Promised(group)
					}
				}
			}
		}
		for _, size := range []int{0, 1, 5000, 1 << 20, 1<<20 + 1} {
			k.Save(make([]byte, size))
			k.Load()
		}
	}
}
