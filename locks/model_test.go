package locks

import (
	"slices"
	"testing"

	"argosy/api"
	"argosy/store"
)

// model is locks that are kept by the words of the chapter: one list of all who are in line, one of all who are parked, each in the order in which they came there.
type model struct {
	line, parked []entry
	doomed       []api.Tag
}

type entry struct {
	tag  api.Tag
	mark api.Mark
}

// look tells how a mark stands to a store by the words of layer 10.
func look(s *store.Store, m api.Mark) int {
	r := s.Get(m.Key)
	if m.Home == r.Home && m.Count == r.Count {
		return 0
	}
	if m.Count > r.Count {
		return 1
	}
	return 2
}

// of gives the tags of a list's entries for a key.
func of(list []entry, key string) []api.Tag {
	var tags []api.Tag
	for _, e := range list {
		if e.mark.Key == key {
			tags = append(tags, e.tag)
		}
	}
	return tags
}

func (m *model) enter(s *store.Store, tag api.Tag, marks []api.Mark) {
	for _, x := range marks {
		if !slices.Contains(of(m.line, x.Key), tag) && !slices.Contains(of(m.parked, x.Key), tag) {
			m.place(s, entry{tag, x})
		}
	}
}

func (m *model) place(s *store.Store, e entry) {
	switch look(s, e.mark) {
	case 0:
		m.line = append(m.line, e)
	case 1:
		m.parked = append(m.parked, e)
	case 2:
		m.doomed = append(m.doomed, e.tag)
	}
}

func (m *model) moved(s *store.Store, key string) {
	for _, e := range m.line {
		if e.mark.Key == key && look(s, e.mark) != 0 {
			m.doomed = append(m.doomed, e.tag)
		}
	}
	parked := m.parked
	m.parked = nil
	for _, e := range parked {
		if e.mark.Key == key {
			m.place(s, e)
		} else {
			m.parked = append(m.parked, e)
		}
	}
}

func (m *model) leave(tag api.Tag) {
	without := func(list []entry) []entry {
		var rest []entry
		for _, e := range list {
			if e.tag != tag {
				rest = append(rest, e)
			}
		}
		return rest
	}
	m.line, m.parked = without(m.line), without(m.parked)
	for i := len(m.doomed) - 1; i >= 0; i-- {
		if m.doomed[i] == tag {
			m.doomed = append(m.doomed[:i:i], m.doomed[i+1:]...)
		}
	}
}

// keys gives those of some keys, which rise, for which somebody waits.
func (m *model) keys(asked []string) []string {
	var keys []string
	for _, key := range asked {
		if len(of(m.line, key)) > 0 || len(of(m.parked, key)) > 0 {
			keys = append(keys, key)
		}
	}
	return keys
}

func (m *model) ready(tag api.Tag, asked []string) bool {
	for _, key := range asked {
		line := of(m.line, key)
		if slices.Contains(of(m.parked, key), tag) || slices.Contains(line, tag) && line[0] != tag {
			return false
		}
	}
	return true
}

func (m *model) ahead(tag api.Tag, asked []string) []api.Tag {
	var ahead []api.Tag
	for _, key := range asked {
		line := of(m.line, key)
		if !slices.Contains(line, tag) {
			continue
		}
		for _, other := range line {
			if other == tag {
				break
			}
			if !slices.Contains(ahead, other) {
				ahead = append(ahead, other)
			}
		}
	}
	return ahead
}

// alike tells whether locks and a model are, by all that they tell of some tries, and some keys, which rise.
func alike(l *Locks, m *model, tags []api.Tag, asked []string) bool {
	if !slices.Equal(l.Keys(), m.keys(asked)) {
		return false
	}
	for _, key := range asked {
		if !slices.Equal(l.Queue(key), of(m.line, key)) || !slices.Equal(l.Parked(key), of(m.parked, key)) {
			return false
		}
	}
	for _, tag := range tags {
		if l.Doomed(tag) != slices.Contains(m.doomed, tag) || l.Ready(tag) != m.ready(tag, asked) || !slices.Equal(l.Ahead(tag), m.ahead(tag, asked)) {
			return false
		}
	}
	return true
}

// step is one call of locks and of their model, and what changes in the store ahead of it.
type step func(s *store.Store, l *Locks, m *model)

func entering(seq uint64, marks ...api.Mark) step {
	return func(s *store.Store, l *Locks, m *model) {
		l.Enter(s, numbered(seq), marks)
		m.enter(s, numbered(seq), marks)
	}
}

// moving is a move of a key, of which the locks are told.
func moving(key string, home int) step {
	return func(s *store.Store, l *Locks, m *model) {
		s.Move(key, home)
		l.Moved(s, key)
		m.moved(s, key)
	}
}

// movingAlone is a move of which the locks aren't told.
func movingAlone(key string, home int) step {
	return func(s *store.Store, l *Locks, m *model) {
		s.Move(key, home)
	}
}

func leaving(seq uint64) step {
	return func(s *store.Store, l *Locks, m *model) {
		l.Leave(numbered(seq))
		m.leave(numbered(seq))
	}
}

// fewSteps are of three tries and two keys, a (at home in 1) and b (in 2).
func fewSteps() []step {
	return []step{
		entering(1, mark("a", 1, 0)),
		entering(1, mark("b", 2, 0), mark("a", 0, 1)),
		entering(2, mark("a", 1, 0), mark("b", 2, 0)),
		entering(2, mark("a", 0, 1), mark("a", 1, 0)),
		entering(3, mark("a", 0, 2), mark("b", 0, 1)),
		entering(3, mark("a", 0, 0), mark("a", 0, 1), mark("b", 2, 0)),
		moving("a", 0),
		moving("b", 0),
		movingAlone("a", 1),
		leaving(1),
		leaving(2),
		leaving(3),
	}
}

// P16.1 to P16.5: all rows of five calls.
func TestAllRows(t *testing.T) {
	const length = 5
	all := fewSteps()
	rows := 1
	for range length {
		rows *= len(all)
	}
	beginning := empty(t)
	for row := range rows {
		s, l, m := beginning.Clone(), New(), &model{}
		for i, rest := 0, row; i < length; i, rest = i+1, rest/len(all) {
			all[rest%len(all)](s, l, m)
		}
		if !alike(l, m, numberedAll(1, 2, 3), []string{"a", "b"}) {
			t.Fatalf("row %d: %v, %v, %v", row, m.line, m.parked, m.doomed)
		}
	}
}

// manyKeys rise.
func manyKeys() []string {
	return []string{"", "A", "a", "aa", "b", "\x80", "\xff"}
}

// thrown gives a mark of one of many keys, at times as a store has it, at times some Counts before or behind.
func thrown(s *store.Store, next func(int) int) api.Mark {
	key := manyKeys()[next(len(manyKeys()))]
	record := s.Get(key)
	x := mark(key, record.Home, record.Count)
	switch next(6) {
	case 0, 1:
		x.Home, x.Count = next(3), x.Count+1
	case 2:
		x.Home, x.Count = next(3), x.Count+uint64(next(4))
	case 3:
		x.Count -= min(x.Count, uint64(next(3)))
	}
	return x
}

// P16.1 to P16.5: long rows, in which all that is told is held against the model behind each call.
func TestLongRows(t *testing.T) {
	next := steps(16)
	stood, parked, doomed, came := 0, 0, 0, 0
	for row := range 12 {
		s, l, m := empty(t), New(), &model{}
		for i := range 250 {
			seq := uint64(1 + next(12))
			switch next(8) {
			case 0:
				leaving(seq)(s, l, m)
			case 1:
				key, before := manyKeys()[next(len(manyKeys()))], len(m.line)
				moving(key, next(3))(s, l, m)
				came += len(m.line) - before
			default:
				var marks []api.Mark
				for range next(4) {
					marks = append(marks, thrown(s, next))
				}
				entering(seq, marks...)(s, l, m)
			}
			if !alike(l, m, numberedAll(1, 2, 3, 4, 5, 6, 7, 8, 9, 10, 11, 12, 13), manyKeys()) {
				t.Fatalf("row %d, call %d: %v, %v, %v", row, i, m.line, m.parked, m.doomed)
			}
		}
		stood, parked, doomed = stood+len(m.line), parked+len(m.parked), doomed+len(m.doomed)
	}
	if stood < 100 || parked < 50 || doomed < 20 || came < 50 {
		t.Errorf("only %d stood, %d were parked, %d doomed, %d came into line", stood, parked, doomed, came)
	}
}

// P2, P16.5: two runs of the same calls give the same answers, and one call twice; with keys so many that a map's own order would be seen.
func TestSameAnswers(t *testing.T) {
	tell := func() (names []string, ahead []api.Tag) {
		next := steps(5)
		s, l := empty(t), New()
		for i := range 200 {
			var given []api.Mark
			for range 6 {
				given = append(given, marks(s, string([]byte{byte(next(256))}))...)
			}
			l.Enter(s, numbered(uint64(i)), given)
		}
		for i := range 200 {
			tag := numbered(uint64(i))
			if !slices.Equal(l.Ahead(tag), l.Ahead(tag)) || l.Ready(tag) != (len(l.Ahead(tag)) == 0) {
				t.Errorf("two calls of Ahead of %d differ, or it is ready with some ahead", i)
			}
			ahead = append(ahead, l.Ahead(tag)...)
		}
		return l.Keys(), ahead
	}
	names, ahead := tell()
	for range 3 {
		others, again := tell()
		if !slices.Equal(names, others) || !slices.Equal(ahead, again) {
			t.Error("two runs differ")
		}
	}
	if len(names) < 200 || !slices.IsSorted(names) || len(ahead) < 1000 {
		t.Errorf("%d keys, %d ahead", len(names), len(ahead))
	}
}
