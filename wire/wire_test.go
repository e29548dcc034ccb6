package wire

import (
	"bytes"
	"math"
	"strings"
	"testing"

	"argosy/api"
)

// P18.1: what is right, of all kinds, up to the edges.
func TestCheck(t *testing.T) {
	count := 0
	cases(func(name string, m api.Message, right bool) {
		want := api.ErrArg
		if right {
			count++
			want = api.OK
		}
		if err := Check(m); err != want {
			t.Errorf("Check of %s: %v, want %v", name, err, want)
		}
	})
	if count < 300 {
		t.Errorf("only %d were right", count)
	}
	for _, m := range rightMessages() {
		if err := Check(m); err != api.OK {
			t.Errorf("Check of %s: %v", short(m), err)
		}
	}
}

// P18.1: the bytes, written out.
func TestWrite(t *testing.T) {
	for _, c := range []struct {
		m    api.Message
		want string
	}{
		{api.Message{Kind: api.MsgNeed}, "\x07\x00\x00\x00\x00\x00\x00\x00"},
		{promise(), "\x02\x03\x08\x01\x05\xac\x02\x00\x02" + "\x05\x07\x02ab" + "\x3f\xc8\x01\x00"},
		{take(), "\x03\x08\x00\x03\x3f\xff\xff\xff\xff\xff\xff\xff\xff\xff\x01\x05value\x00"},
		{api.Message{Kind: api.MsgFull, To: 1, Slot: 64, Value: strings.Repeat("x", 200)}, "\x09\x00\x01\x00\x40\x00\xc8\x01" + strings.Repeat("x", 200) + "\x00"},
	} {
		b, err := Write(c.m)
		if want := summed([]byte(c.want)); !bytes.Equal(b, want) || err != api.OK {
			t.Errorf("Write of %v: %q, %v, want %q", c.m, b, err, want)
		}
	}
}

// P18.1: the sum is a number of up to 32 bits, of all that stands ahead of it.
func TestSum(t *testing.T) {
	b, err := Write(api.Message{Kind: api.MsgNeed})
	if want := "\x07\x00\x00\x00\x00\x00\x00\x00\x8e\xef\xc6\xb3\x07"; string(b) != want || err != api.OK {
		t.Errorf("%q, %v, want %q", b, err, want)
	}
	sizes := map[int]int{}
	for ballot := range 40000 {
		m := api.Message{Kind: api.MsgAsk, Ballot: uint64(ballot)}
		b, err := Write(m)
		if !bytes.Equal(b, wrote(m)) || err != api.OK {
			t.Fatalf("Write of %v: %q, %v", m, b, err)
		}
		reads(t, "what was written", b, m)
		sizes[len(b)-len(bodied(m))]++
	}
	if sizes[5] == 0 || sizes[4] == 0 || sizes[3] == 0 || len(sizes) > 5 {
		t.Errorf("sums by their bytes: %v", sizes)
	}
}

// P18.1, P18.2: what is right is written and read again, what isn't is neither.
func TestWriteAndRead(t *testing.T) {
	cases(func(name string, m api.Message, right bool) {
		b, err := Write(m)
		if !right {
			if len(b) > 0 || err != api.ErrArg {
				t.Errorf("Write of %s: %d bytes, %v", name, len(b), err)
			}
			refuses(t, name, wrote(m))
			return
		}
		if !bytes.Equal(b, wrote(m)) || err != api.OK {
			t.Errorf("Write of %s: %.200q, %v", name, b, err)
		}
		reads(t, name, b, m)
	})
	for _, m := range rightMessages() {
		b, err := Write(m)
		if !bytes.Equal(b, wrote(m)) || err != api.OK {
			t.Errorf("Write of %s: %.200q, %v", short(m), b, err)
		}
		reads(t, "a right message", b, m)
	}
}

// P1: calls of any arguments end.
func TestAnyArguments(t *testing.T) {
	numbers := []int{math.MinInt, -1, 0, 2, 3, 64, math.MaxInt}
	for _, a := range numbers {
		for _, b := range numbers {
			for _, value := range []string{"", "\x00", strings.Repeat("\xff", 100000)} {
				m := api.Message{Kind: a, From: b, To: a, Group: b, Slot: a, Ballot: uint64(b), Value: value}
				for _, votes := range [][]api.Vote[string]{nil, {vote(a, uint64(a), value), vote(b, 0, "")}, make([]api.Vote[string], 100000)} {
					m.Votes = votes
					Check(m)
					Write(m)
				}
			}
		}
	}
	for length := range 400 {
		for _, b := range []byte{0, 1, 2, 127, 128, 255} {
			Read(bytes.Repeat([]byte{b}, length))
			Read(bytes.Repeat([]byte{2, b}, length))
		}
	}
}

// P2: two runs of the same calls give the same answers.
func TestSameAnswers(t *testing.T) {
	for _, m := range rightMessages() {
		one, _ := Write(m)
		two, _ := Write(m)
		if !bytes.Equal(one, two) {
			t.Errorf("two runs differ: %.200q, %.200q", one, two)
		}
		first, _ := Read(one)
		second, _ := Read(two)
		if !same(first, second) {
			t.Errorf("two runs differ: %s, %s", short(first), short(second))
		}
	}
}
