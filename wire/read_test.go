package wire

import (
	"bytes"
	"fmt"
	"slices"
	"testing"

	"argosy/api"
)

// very is a number of 64 bits.
const very = "\xff\xff\xff\xff\xff\xff\xff\xff\xff\x01"

// P18.2: bytes with the right sum behind them that aren't a message's.
func TestReadErrors(t *testing.T) {
	body := bodied(promise())
	reads(t, "the whole", summed(body), promise())
	for name, b := range map[string]string{
		"nothing":                     "",
		"no votes told":               "\x07\x00\x00\x00\x00\x00\x00",
		"a byte more":                 string(body) + "\x00",
		"a message twice":             string(body) + string(body),
		"no value":                    "\x07\x00\x00\x00\x00\x00",
		"a Kind of two forms":         "\x87\x00\x00\x00\x00\x00\x00\x00\x00",
		"a From of two forms":         "\x07\x80\x00\x00\x00\x00\x00\x00\x00",
		"a Ballot of two forms":       "\x07\x00\x00\x00\x00\x80\x00\x00\x00",
		"a Ballot beyond 64 bits":     "\x07\x00\x00\x00\x00\xff\xff\xff\xff\xff\xff\xff\xff\xff\x02\x00\x00",
		"a length of two forms":       "\x07\x00\x00\x00\x00\x00\x80\x00\x00",
		"no votes of two forms":       "\x07\x00\x00\x00\x00\x00\x00\x80\x00",
		"a Kind of 64 bits":           very + "\x00\x00\x00\x00\x00\x00\x00",
		"a Slot of 64 bits":           "\x07\x00\x00\x00" + very + "\x00\x00\x00",
		"a value that is too long":    "\x03\x00\x00\x00\x00\x00\x05abcd\x00",
		"a value that is very long":   "\x03\x00\x00\x00\x00\x00" + very + "abcd\x00",
		"a value that is too short":   "\x03\x00\x00\x00\x00\x00\x03abcd\x00",
		"a vote less":                 "\x02\x00\x00\x00\x00\x00\x00\x02\x05\x00\x00",
		"a vote more":                 "\x02\x00\x00\x00\x00\x00\x00\x01\x05\x00\x00\x06\x00\x00",
		"votes told as none":          "\x02\x00\x00\x00\x00\x00\x00\x00\x05\x00\x00",
		"very many votes":             "\x02\x00\x00\x00\x00\x00\x00" + very + "\x05\x00\x00",
		"votes of a kind without":     "\x07\x00\x00\x00\x00\x00\x00\x01\x05\x00\x00",
		"a value of a kind without":   "\x02\x00\x00\x00\x00\x00\x01x\x00",
		"a place of two forms":        "\x02\x00\x00\x00\x00\x00\x00\x01\x85\x00\x00\x00",
		"a place of 64 bits":          "\x02\x00\x00\x00\x00\x00\x00\x01" + very + "\x00\x00",
		"a vote's long value":         "\x02\x00\x00\x00\x00\x00\x00\x01\x05\x00\x03ab",
		"a vote's value of two forms": "\x02\x00\x00\x00\x00\x00\x00\x01\x05\x00\x80\x00",
		"65 votes":                    "\x02\x00\x00\x00\x00\x00\x00\x41" + string(bytes.Repeat([]byte{5, 0, 0}, 65)),
	} {
		refuses(t, name, summed([]byte(b)))
		refuses(t, name+" without a sum", []byte(b))
	}
	refuses(t, "nil", nil)
	refuses(t, "an empty list", []byte{})
}

// P18.2: the sum is that of all bytes ahead of it, as a number, with nothing behind it.
func TestReadSums(t *testing.T) {
	for _, m := range rightMessages() {
		body, whole := bodied(m), wrote(m)
		sum := whole[len(body):]
		reads(t, "the whole", whole, m)
		refuses(t, "no sum", body)
		refuses(t, "half a sum", whole[:len(whole)-1])
		refuses(t, "a sum and a byte", slices.Concat(whole, []byte{0}))
		refuses(t, "two sums", slices.Concat(whole, sum))
		refuses(t, "a sum of the sum, too", summed(whole))
		refuses(t, "a sum of another message", slices.Concat(body, wrote(api.Message{Kind: api.MsgAsk, Ballot: 99})[8:]))
		twoForms := slices.Concat(whole, []byte{0})
		twoForms[len(whole)-1] |= 128
		refuses(t, "a sum of two forms", twoForms)
		for bit := range 32 {
			n := uint64(0)
			for i, b := range sum {
				n |= uint64(b%128) << (7 * i)
			}
			refuses(t, fmt.Sprintf("a sum whose bit %d is another", bit), slices.Concat(body, number(n^1<<bit)))
			refuses(t, "a sum beyond 32 bits", slices.Concat(body, number(n|1<<(32+bit))))
		}
	}
}

// P18.2: each beginning of a message's bytes.
func TestReadShort(t *testing.T) {
	for _, m := range []api.Message{promise(), take(), {Kind: api.MsgNeed}} {
		body, whole := bodied(m), wrote(m)
		for n := range whole {
			refuses(t, fmt.Sprintf("the first %d bytes", n), whole[:n])
			refuses(t, fmt.Sprintf("the bytes from %d on", n+1), whole[n+1:])
		}
		for n := range body {
			refuses(t, fmt.Sprintf("the first %d bytes, summed,", n), summed(body[:n]))
		}
	}
}

// P18.2: whatever one byte is, the sum tells of it.
func TestEachByte(t *testing.T) {
	for _, m := range []api.Message{promise(), take(), {Kind: api.MsgNeed}} {
		whole := wrote(m)
		for at, was := range whole {
			for b := range 256 {
				if byte(b) == was {
					continue
				}
				data := slices.Clone(whole)
				data[at] = byte(b)
				refuses(t, fmt.Sprintf("%v, whose byte %d is %d,", m, at, b), data)
			}
		}
	}
}

// damaged gives bytes that are near to some, by a few steps.
func damaged(b []byte, next func(below int) int) []byte {
	b = slices.Clone(b)
	for range 1 + next(3) {
		at := next(len(b))
		switch next(4) {
		case 0:
			b[at] = byte(next(256))
		case 1:
			b[at] ^= byte(1 << next(8))
		case 2:
			b = slices.Delete(b, at, at+1)
		case 3:
			b = slices.Insert(b, at, byte(next(4)))
		}
	}
	return b
}

// P18.2: bytes that are taken are those that are written of what was read, and that is right.
func TestReadOfAnyBytes(t *testing.T) {
	next := steps(1)
	messages := []api.Message{promise(), take(), {Kind: api.MsgNeed}, {Kind: api.MsgPromise, Votes: []api.Vote[string]{vote(1, 1, "x"), vote(2, 1, "y"), vote(9, 300, "")}}}
	taken := 0
	for i := range 100000 {
		data := summed(damaged(bodied(messages[i%len(messages)]), next))
		m, err := Read(data)
		if err != api.OK {
			refuses(t, "damaged bytes", data)
			continue
		}
		taken++
		if Check(m) != api.OK || !bytes.Equal(wrote(m), data) {
			t.Fatalf("%q is taken as %v", data, m)
		}
	}
	if taken < 10000 || taken > 90000 {
		t.Errorf("%d were taken", taken)
	}
}
