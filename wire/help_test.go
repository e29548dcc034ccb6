package wire

import (
	"fmt"
	"hash/crc32"
	"math"
	"slices"
	"strings"
	"testing"

	"argosy/api"
)

// number is a number by the words of layer 1.
func number(n uint64) []byte {
	var b []byte
	for ; n > 127; n /= 128 {
		b = append(b, byte(n%128+128))
	}
	return append(b, byte(n))
}

func text(s string) []byte {
	return append(number(uint64(len(s))), s...)
}

// bodied gives a message's bytes up to the sum, by the words of the promise, whether it is right or not.
func bodied(m api.Message) []byte {
	var b []byte
	for _, n := range []int{m.Kind, m.From, m.To, m.Group, m.Slot} {
		b = append(b, number(uint64(n))...)
	}
	b = append(b, number(m.Ballot)...)
	b = append(b, text(m.Value)...)
	b = append(b, number(uint64(len(m.Votes)))...)
	for _, v := range m.Votes {
		b = append(b, number(uint64(v.Slot))...)
		b = append(b, number(v.Ballot)...)
		b = append(b, text(v.Value)...)
	}
	return b
}

// summed gives bytes with their sum behind them.
func summed(b []byte) []byte {
	sum := crc32.Checksum(b, crc32.MakeTable(crc32.Castagnoli))
	return slices.Concat(b, number(uint64(sum)))
}

func wrote(m api.Message) []byte {
	return summed(bodied(m))
}

func vote(slot int, ballot uint64, value string) api.Vote[string] {
	return api.Vote[string]{Slot: slot, Ballot: ballot, Value: value}
}

// promise gives a right message with something in nearly each of its fields.
func promise() api.Message {
	return api.Message{
		Kind: api.MsgPromise, From: 3, To: 8, Group: 1, Slot: 5, Ballot: 300,
		Votes: []api.Vote[string]{vote(5, 7, "ab"), vote(63, 200, "")},
	}
}

// take gives a right message with a value.
func take() api.Message {
	return api.Message{Kind: api.MsgTake, From: 8, Group: 3, Slot: 63, Ballot: math.MaxUint64, Value: "value"}
}

// greatest gives the right message whose bytes are the most.
func greatest() api.Message {
	m := api.Message{Kind: api.MsgPromise, From: 8, To: 8, Group: 3, Slot: 64, Ballot: math.MaxUint64}
	for slot := range 64 {
		m.Votes = append(m.Votes, vote(slot, math.MaxUint64, strings.Repeat("v", 4096)))
	}
	return m
}

// rightMessages are messages that are right.
func rightMessages() []api.Message {
	all := []api.Message{promise(), take(), greatest()}
	for kind := api.MsgAsk; kind <= api.MsgFull; kind++ {
		all = append(all, api.Message{Kind: kind})
	}
	for _, kind := range []int{api.MsgTake, api.MsgChosen, api.MsgOrder, api.MsgFull} {
		all = append(all, api.Message{Kind: kind, To: 4, Slot: 64, Value: "\x00\xff"})
		all = append(all, api.Message{Kind: kind, From: 4, Ballot: 1, Value: strings.Repeat("x", 4096)})
	}
	return all
}

// change is what is done to a message, and whether it is right then.
type change struct {
	name  string
	do    func(*api.Message)
	right bool
}

// bounds are changes of a number that may be from least to most.
func bounds(name string, least, most int, field func(*api.Message) *int) []change {
	var all []change
	for _, n := range []int{math.MinInt, -1 << 32, -1, 0, 1, 2, 3, 4, 8, 9, 10, 62, 63, 64, 65, 128, 1 << 32, 1<<32 + 1, math.MaxInt} {
		all = append(all, change{fmt.Sprint(name, " ", n), func(m *api.Message) { *field(m) = n }, n >= least && n <= most})
	}
	return all
}

// numbers are changes of the numbers of a message of a kind; its Kind stays as it is.
func numbers() []change {
	return slices.Concat(
		bounds("From", 0, 8, func(m *api.Message) *int { return &m.From }),
		bounds("To", 0, 8, func(m *api.Message) *int { return &m.To }),
		bounds("Group", 0, 3, func(m *api.Message) *int { return &m.Group }),
		bounds("Slot", 0, 64, func(m *api.Message) *int { return &m.Slot }),
		[]change{
			{"nothing", func(m *api.Message) {}, true},
			{"no Ballot", func(m *api.Message) { m.Ballot = 0 }, true},
			{"the greatest Ballot", func(m *api.Message) { m.Ballot = math.MaxUint64 }, true},
		},
	)
}

// votings are changes of the votes of a promise.
func votings() []change {
	set := func(votes ...api.Vote[string]) func(*api.Message) {
		return func(m *api.Message) { m.Votes = votes }
	}
	long := strings.Repeat("v", 4096)
	all := greatest().Votes
	return []change{
		{"no votes", set(), true},
		{"an empty list of votes", set([]api.Vote[string]{}...), true},
		{"a vote at 0", set(vote(0, 0, "")), true},
		{"a vote at 63", set(vote(63, 0, "x")), true},
		{"a vote at 64", set(vote(64, 0, "x")), false},
		{"a vote below 0", set(vote(-1, 0, "x")), false},
		{"a vote far below 0", set(vote(math.MinInt, 0, "x")), false},
		{"a vote far above", set(vote(math.MaxInt, 0, "x")), false},
		{"a vote beyond 32 bits", set(vote(1<<32, 0, "x")), false},
		{"votes that rise", set(vote(0, 3, "x"), vote(1, 2, "x"), vote(5, 1, "x")), true},
		{"a place twice", set(vote(4, 3, "x"), vote(4, 3, "x")), false},
		{"the place 0 twice", set(vote(0, 3, "x"), vote(0, 4, "x")), false},
		{"the place 63 twice", set(vote(63, 3, "x"), vote(63, 4, "x")), false},
		{"votes that fall", set(vote(5, 1, "x"), vote(4, 2, "x")), false},
		{"votes that fall later", set(vote(1, 1, "x"), vote(5, 1, "x"), vote(4, 2, "x")), false},
		{"votes that fall below the first", set(vote(3, 1, "x"), vote(5, 1, "x"), vote(2, 2, "x")), false},
		{"a later vote at 64", set(vote(63, 0, "x"), vote(64, 0, "x")), false},
		{"a later vote below 0", set(vote(0, 0, "x"), vote(-1, 0, "x")), false},
		{"the greatest ballot", set(vote(0, math.MaxUint64, "x")), true},
		{"a value of 4096", set(vote(0, 0, long)), true},
		{"a value of 4097", set(vote(0, 0, long+"v")), false},
		{"a later value of 4097", set(vote(0, 0, ""), vote(1, 0, long+"v")), false},
		{"all places", set(all...), true},
		{"all places and 64", set(append(slices.Clone(all), vote(64, 0, ""))...), false},
		{"all places and 63 again", set(append(slices.Clone(all), vote(63, 0, ""))...), false},
		{"very many votes", set(slices.Repeat([]api.Vote[string]{vote(1, 1, "")}, 300)...), false},
	}
}

// valued tells which kinds may have a value.
func valued(kind int) bool {
	return kind == api.MsgTake || kind == api.MsgChosen || kind == api.MsgOrder || kind == api.MsgFull
}

// cases calls do with all changes of messages of all kinds, and a few of no kind.
func cases(do func(name string, m api.Message, right bool)) {
	for _, kind := range []int{math.MinInt, -1, 0, 1, 2, 3, 4, 5, 6, 7, 8, 9, 10, 11, 1 << 32, 1<<32 + 3, math.MaxInt} {
		known := kind >= 1 && kind <= 9
		for _, c := range numbers() {
			m := api.Message{Kind: kind, From: 1, To: 2, Group: 1, Slot: 9, Ballot: 4}
			c.do(&m)
			do(fmt.Sprint("kind ", kind, " with ", c.name), m, known && c.right)
		}
		for _, size := range []int{0, 1, 2, 4095, 4096, 4097, 4098, 10000} {
			m := api.Message{Kind: kind, Value: strings.Repeat("x", size)}
			do(fmt.Sprint("kind ", kind, " with a value of ", size), m, known && (size == 0 || valued(kind) && size <= 4096))
		}
		for _, c := range votings() {
			m := api.Message{Kind: kind}
			c.do(&m)
			do(fmt.Sprint("kind ", kind, " with ", c.name), m, known && (len(m.Votes) == 0 || kind == api.MsgPromise && c.right))
		}
		both := promise()
		both.Kind, both.Value = kind, "x"
		do(fmt.Sprint("kind ", kind, " with votes and a value"), both, false)
	}
}

func same(a, b api.Message) bool {
	votes := slices.Equal(a.Votes, b.Votes)
	a.Votes, b.Votes = nil, nil
	return votes && fmt.Sprint(a) == fmt.Sprint(b)
}

// short tells of a message, but not of all, where that is much.
func short(m api.Message) string {
	return fmt.Sprintf("%.200s", fmt.Sprint(m))
}

// reads fails, unless Read gives a message of bytes.
func reads(t *testing.T, name string, b []byte, want api.Message) {
	t.Helper()
	if got, err := Read(b); !same(got, want) || err != api.OK {
		t.Errorf("Read of %s: %s, %v, want %s", name, short(got), err, short(want))
	}
}

// refuses fails, unless Read answers ErrForm, and nothing else.
func refuses(t *testing.T, name string, b []byte) {
	t.Helper()
	if got, err := Read(b); !same(got, api.Message{}) || err != api.ErrForm {
		t.Errorf("Read of %s: %s, %v", name, short(got), err)
	}
}

// steps is a row of numbers that looks thrown, and is the same in each run.
func steps(seed uint64) func(below int) int {
	return func(below int) int {
		seed = seed*6364136223846793005 + 1442695040888963407
		return int(seed>>33) % below
	}
}
