package store

import (
	"bytes"
	"maps"
	"math"
	"slices"
	"strings"
	"testing"

	"argosy/api"
)

// steps is a row of numbers that looks thrown, and is the same in each run.
func steps(seed uint64) func(below int) int {
	return func(below int) int {
		seed = seed*6364136223846793005 + 1442695040888963407
		return int(seed>>33) % below
	}
}

// model is a store that is kept by the words of the chapter: each key that was ever named, with its record.
type model struct {
	regions int
	records map[string]api.Record
}

func (m model) get(key string) api.Record {
	if r, ok := m.records[key]; ok {
		return r
	}
	sum := 0
	for _, b := range []byte(key) {
		sum += int(b)
	}
	return api.Record{Home: sum % m.regions}
}

func (m model) set(key string, has bool, value string) {
	r := m.get(key)
	m.records[key] = api.Record{Has: has, Value: []byte(value), Home: r.Home, Count: r.Count}
}

func (m model) move(key string, home int) {
	if home < 0 || home >= m.regions {
		return
	}
	r := m.get(key)
	r.Home, r.Count = home, r.Count+1
	m.records[key] = r
}

func (m model) rows(is func(api.Row) bool) []api.Row {
	var rows []api.Row
	for _, key := range slices.Sorted(maps.Keys(m.records)) {
		if r := row(key, m.records[key]); is(r) {
			rows = append(rows, r)
		}
	}
	return rows
}

// thrownKey gives one of many keys, of which some begin with others.
func thrownKey(next func(int) int) string {
	return strings.Repeat("\xf0", next(3)) + string([]byte{byte(next(6)), byte(next(256))}[:next(3)])
}

// step does one thing to both.
func step(next func(int) int, s *Store, m model) {
	key := thrownKey(next)
	switch next(4) {
	case 0, 1:
		value := strings.Repeat("v", next(40))
		s.Put(key, []byte(value))
		m.set(key, true, value)
	case 2:
		s.Delete(key)
		m.set(key, false, "")
	case 3:
		home := next(5) - 1
		s.Move(key, home)
		m.move(key, home)
	}
}

func compare(t *testing.T, next func(int) int, s *Store, m model) {
	t.Helper()
	all := m.rows(func(r api.Row) bool { return r.Record.Has || r.Record.Count > 0 })
	rowsAre(t, "Rows", s.Rows(), all...)
	from, most := thrownKey(next), next(30)
	ranged := m.rows(func(r api.Row) bool { return r.Record.Has && r.Key >= from })
	rowsAre(t, "Range", s.Range(from, most), ranged[:min(most, len(ranged))]...)
	key := thrownKey(next)
	wants(t, s, key, m.get(key))
}

// P6.1 to P6.4: many steps, with a clone and a restored one that go on apart.
func TestAsModel(t *testing.T) {
	for regions := 1; regions <= 3; regions++ {
		next := steps(uint64(regions))
		s, m := made(t, regions), model{regions, map[string]api.Record{}}
		for i := range 4000 {
			step(next, s, m)
			if i%50 > 0 {
				continue
			}
			compare(t, next, s, m)
			twin, other := s.Clone(), model{regions, maps.Clone(m.records)}
			again, err := Restore(s.Snapshot(), regions)
			if err != api.OK {
				t.Fatal(err)
			}
			for range 20 {
				step(next, twin, other)
			}
			compare(t, next, twin, other)
			compare(t, next, again, m)
			if i%100 > 0 {
				s, m = twin, other
			}
		}
		compare(t, next, s, m)
	}
}

// P2: two runs of the same calls give the same answers.
func TestSameAnswers(t *testing.T) {
	run := func() []byte {
		next := steps(7)
		s, m := made(t, 3), model{3, map[string]api.Record{}}
		for range 500 {
			step(next, s, m)
		}
		return s.Snapshot()
	}
	if !bytes.Equal(run(), run()) {
		t.Error("two runs differ")
	}
}

// P6.4: of two ways to the same records the snapshots are one.
func TestSnapshotsAreAlike(t *testing.T) {
	a, b := made(t, 2), made(t, 2)
	keys := []string{"d", "a", "c", "b", "e"}
	for _, key := range keys {
		a.Put(key, []byte(key))
		moves(t, a, key, 1, api.OK)
	}
	slices.Reverse(keys)
	for _, key := range keys {
		moves(t, b, key, 1, api.OK)
		b.Put(key, nil)
		b.Put("more"+key, []byte(key))
		b.Put(key, []byte(key))
		b.Delete("more" + key)
	}
	if !bytes.Equal(a.Snapshot(), b.Snapshot()) {
		t.Errorf("%v, %v", a.Snapshot(), b.Snapshot())
	}
}

// P6.5: what is handed in isn't changed, its spare room neither, and isn't kept.
func TestGivenMemory(t *testing.T) {
	s := made(t, 3)
	given := []byte("12345678")
	for range 2 {
		s.Put("a", given[:3])
		s.Put("a", given[:4])
		s.Put("b", given[:0])
	}
	if string(given) != "12345678" {
		t.Errorf("Put changed what it was given: %q", given)
	}
	clear(given)
	wants(t, s, "a", valued("1234", 1, 0))
	data := append(s.Snapshot(), 1, 2, 3)
	before := slices.Clone(data)
	again, err := Restore(data[:len(data)-3], 3)
	if err != api.OK || !bytes.Equal(data, before) {
		t.Errorf("%v: %v, was %v", err, data, before)
	}
	clear(data)
	rowsAre(t, "Rows", again.Rows(), s.Rows()...)
}

// spoil writes over all that rows have, the spare room too.
func spoil(rows []api.Row) {
	for _, r := range rows {
		spoilRecord(r.Record)
	}
	clear(rows[:cap(rows)])
}

func spoilRecord(r api.Record) {
	clear(r.Value[:cap(r.Value)])
}

// P6.5: answers are new memory, of each list by itself.
func TestAnsweredMemory(t *testing.T) {
	s := made(t, 3)
	value := []byte("value")
	s.Put("a", value)
	s.Put("b", value)
	s.Put("b", s.Get("a").Value)
	twin := s.Clone()
	want := []api.Row{row("a", valued("value", 1, 0)), row("b", valued("value", 2, 0))}
	rows, ranged, got, data := s.Rows(), s.Range("", 9), s.Get("a"), s.Snapshot()
	kept, keptRanged, keptGot, keptData := s.Rows(), s.Range("", 9), s.Get("a"), s.Snapshot()
	spoilRecord(rows[0].Record)
	rowsAre(t, "Rows", rows[1:], want[1])
	spoilRecord(ranged[0].Record)
	rowsAre(t, "Range", ranged[1:], want[1])
	spoil(rows)
	spoil(ranged)
	spoilRecord(got)
	clear(data[:cap(data)])
	rowsAre(t, "Rows of earlier", kept, want...)
	rowsAre(t, "Range of earlier", keptRanged, want...)
	if !sameRecord(keptGot, want[0].Record) || !bytes.Equal(keptData, written(3, want...)) {
		t.Errorf("%v, %v", keptGot, keptData)
	}
	rowsAre(t, "Rows", s.Rows(), want...)
	rowsAre(t, "Rows of the clone", twin.Rows(), want...)
	s.Put("a", []byte("VALUE"))
	spoil(s.Rows())
	spoil(twin.Rows())
	rowsAre(t, "Rows of the clone", twin.Rows(), want...)
	rowsAre(t, "Rows of earlier", kept, want...)
}

// P1: calls of any arguments end.
func TestAnyArguments(t *testing.T) {
	for _, number := range []int{math.MinInt, -1, 0, 1, 3, math.MaxInt} {
		for _, text := range []string{"", "\xff", strings.Repeat("x", 5000)} {
			Default(text, number)
			s := made(t, 1)
			s.Get(text)
			s.Put(text, nil)
			s.Put(text, []byte(text))
			s.Move(text, number)
			s.Range(text, number)
			s.Delete(text)
			s.Delete(text)
			s.Clone().Rows()
			s.Snapshot()
			if s, err := Restore([]byte(text), number); s != nil || err != api.ErrForm {
				t.Errorf("Restore of %d bytes, %d: %v", len(text), number, err)
			}
		}
	}
}
