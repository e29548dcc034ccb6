package locks

import (
	"slices"
	"testing"

	"argosy/api"
	"argosy/code"
	"argosy/store"
)

// empty gives a store of three regions in which all keys are as at the beginning: a is at home in 1, b in 2, c in 0.
func empty(t *testing.T) *store.Store {
	t.Helper()
	s, err := store.New(3)
	if err != api.OK {
		t.Fatal(err)
	}
	return s
}

// counted gives a store of three regions in which the key a has this Home and this Count.
func counted(t *testing.T, home int, count uint64) *store.Store {
	t.Helper()
	p := &code.Pen{}
	p.Num(3)
	p.Num(1)
	p.Text([]byte("a"))
	p.Byte(0)
	p.Text(nil)
	p.Num(uint64(home))
	p.Num(count)
	s, err := store.Restore(p.Data(), 3)
	if err != api.OK {
		t.Fatal(err)
	}
	return s
}

// moves gives a key another home in a store alone.
func moves(t *testing.T, s *store.Store, key string, home int) {
	t.Helper()
	if err := s.Move(key, home); err != api.OK {
		t.Fatalf("Move(%q, %d): %v", key, home, err)
	}
}

func tagOf(node int, epoch, seq uint64, try int) api.Tag {
	return api.Tag{Id: api.Id{Node: node, Epoch: epoch, Seq: seq}, Try: try}
}

// numbered gives a tag that differs from others by its Seq alone.
func numbered(seq uint64) api.Tag {
	return tagOf(0, 1, seq, 0)
}

// numberedAll gives the tags of some numbers, in their order.
func numberedAll(seqs ...uint64) []api.Tag {
	var tags []api.Tag
	for _, seq := range seqs {
		tags = append(tags, numbered(seq))
	}
	return tags
}

// nearTags are tags that differ from each other in one thing at least.
func nearTags() []api.Tag {
	return []api.Tag{
		tagOf(0, 1, 1, 1), tagOf(0, 1, 1, 0), tagOf(8, 1, 1, 2), {}, tagOf(0, 2, 1, 0), tagOf(0, 1, 2, 0),
		tagOf(1, 1, 1, 0), tagOf(0, 1<<63, 1, 0), tagOf(0, 1<<64-1, 1<<64-1, 0), tagOf(-1, 1, 1, -1), tagOf(0, 10, 1, 0),
	}
}

func mark(key string, home int, count uint64) api.Mark {
	return api.Mark{Key: key, Home: home, Count: count}
}

// marks gives marks of keys as a store has them.
func marks(s *store.Store, keys ...string) []api.Mark {
	var all []api.Mark
	for _, key := range keys {
		record := s.Get(key)
		all = append(all, mark(key, record.Home, record.Count))
	}
	return all
}

// waits fails, unless just these are in line, and just these are parked, for a key.
func waits(t *testing.T, l *Locks, key string, queue, parked []api.Tag) {
	t.Helper()
	if got := l.Queue(key); !slices.Equal(got, queue) {
		t.Errorf("Queue(%q): %v, want %v", key, got, queue)
	}
	if got := l.Parked(key); !slices.Equal(got, parked) {
		t.Errorf("Parked(%q): %v, want %v", key, got, parked)
	}
	if got, want := slices.Contains(l.Keys(), key), len(queue)+len(parked) > 0; got != want {
		t.Errorf("%q is among Keys: %v, want %v", key, got, want)
	}
}

// keys fails, unless somebody waits for just these keys.
func keys(t *testing.T, l *Locks, want ...string) {
	t.Helper()
	if got := l.Keys(); !slices.Equal(got, want) {
		t.Errorf("Keys: %q, want %q", got, want)
	}
}

// told is what is told of a try alone.
type told struct {
	doomed, ready bool
	ahead         []api.Tag
}

// tells fails, unless this is what is told of a try.
func tells(t *testing.T, l *Locks, tag api.Tag, want told) {
	t.Helper()
	if got := l.Doomed(tag); got != want.doomed {
		t.Errorf("Doomed(%v): %v, want %v", tag, got, want.doomed)
	}
	if got := l.Ready(tag); got != want.ready {
		t.Errorf("Ready(%v): %v, want %v", tag, got, want.ready)
	}
	if got := l.Ahead(tag); !slices.Equal(got, want.ahead) {
		t.Errorf("Ahead(%v): %v, want %v", tag, got, want.ahead)
	}
}

// steps is a row of numbers that looks thrown, and is the same in each run.
func steps(seed uint64) func(below int) int {
	return func(below int) int {
		seed = seed*6364136223846793005 + 1442695040888963407
		return int(seed>>33) % below
	}
}
