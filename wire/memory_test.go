package wire

import (
	"bytes"
	"slices"
	"testing"

	"argosy/api"
)

// P18.3: votes that are handed in aren't changed, their spare room neither, and aren't kept.
func TestVotesAreLeft(t *testing.T) {
	m := promise()
	m.Votes = append(slices.Grow(m.Votes, 9), vote(7, 7, "spare"))[:2]
	all := m.Votes[:cap(m.Votes)]
	before := slices.Clone(all)
	Check(m)
	first, _ := Write(m)
	if !slices.Equal(all, before) {
		t.Errorf("the votes were changed: %v", all)
	}
	clear(all)
	if !bytes.Equal(first, wrote(promise())) {
		t.Errorf("the votes are kept: %q", first)
	}
}

// P18.3: bytes that are handed in aren't changed, their spare room neither, and aren't kept.
func TestBytesAreLeft(t *testing.T) {
	for _, m := range []api.Message{promise(), take(), greatest()} {
		for _, whole := range [][]byte{wrote(m), append(wrote(m), 1)} {
			given := append(slices.Grow(slices.Clone(whole), 9), 5, 6, 7)[:len(whole)]
			all := given[:cap(given)]
			before := slices.Clone(all)
			got, err := Read(given)
			if !bytes.Equal(all, before) {
				t.Error("the bytes were changed")
			}
			clear(all)
			if err == api.OK && !same(got, m) {
				t.Errorf("the bytes are kept: %s", short(got))
			}
		}
	}
}

// P18.3: answers are new memory, their spare room too.
func TestAnswersAreNew(t *testing.T) {
	one, _ := Write(promise())
	two, _ := Write(promise())
	clear(one[:cap(one)])
	if !bytes.Equal(two, wrote(promise())) {
		t.Errorf("two answers of Write share memory: %q", two)
	}
	first, _ := Read(two)
	second, _ := Read(two)
	clear(first.Votes[:cap(first.Votes)])
	if !same(second, promise()) || !bytes.Equal(two, wrote(promise())) {
		t.Errorf("answers of Read share memory: %v", second)
	}
}
