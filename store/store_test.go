package store

import (
	"bytes"
	"math"
	"slices"
	"strings"
	"testing"

	"argosy/api"
)

// made gives a store of so many regions.
func made(t *testing.T, regions int) *Store {
	t.Helper()
	s, err := New(regions)
	if s == nil || err != api.OK {
		t.Fatalf("New(%d): %v", regions, err)
	}
	return s
}

// sameRecord tells whether two records are one; an empty value and a nil one are alike.
func sameRecord(a, b api.Record) bool {
	return a.Has == b.Has && bytes.Equal(a.Value, b.Value) && a.Home == b.Home && a.Count == b.Count
}

func sameRow(a, b api.Row) bool {
	return a.Key == b.Key && sameRecord(a.Record, b.Record)
}

// wants asks for a key's record.
func wants(t *testing.T, s *Store, key string, want api.Record) {
	t.Helper()
	if got := s.Get(key); !sameRecord(got, want) {
		t.Errorf("Get(%q): %v, want %v", key, got, want)
	}
}

func moves(t *testing.T, s *Store, key string, home int, want api.Errno) {
	t.Helper()
	if got := s.Move(key, home); got != want {
		t.Errorf("Move(%q, %d): %v, want %v", key, home, got, want)
	}
}

func rowsAre(t *testing.T, name string, got []api.Row, want ...api.Row) {
	t.Helper()
	if !slices.EqualFunc(got, want, sameRow) {
		t.Errorf("%s: %v, want %v", name, got, want)
	}
}

// valued gives a record with a value.
func valued(value string, home int, count uint64) api.Record {
	return api.Record{Has: true, Value: []byte(value), Home: home, Count: count}
}

// counted gives a record without a value.
func counted(home int, count uint64) api.Record {
	return api.Record{Home: home, Count: count}
}

func row(key string, record api.Record) api.Row {
	return api.Row{Key: key, Record: record}
}

// P6.1
func TestNew(t *testing.T) {
	for _, regions := range []int{math.MinInt, -3, -1, 0, 4, 5, math.MaxInt} {
		if s, err := New(regions); s != nil || err != api.ErrArg {
			t.Errorf("New(%d): %v, %v", regions, s, err)
		}
	}
	for regions := 1; regions <= 3; regions++ {
		s := made(t, regions)
		rowsAre(t, "Rows of a new one", s.Rows())
		rowsAre(t, "Range of a new one", s.Range("", math.MaxInt))
		for _, key := range []string{"", "a", "b", "c", "ab", "\x00", "\xff\xfe", strings.Repeat("long", 99)} {
			wants(t, s, key, counted(Default(key, regions), 0))
		}
	}
}

// P6.1: the sum of the bytes, which are numbers from 0 to 255.
func TestDefault(t *testing.T) {
	for _, c := range []struct {
		key           string
		regions, want int
	}{
		{"a", 3, 1}, {"b", 3, 2}, {"c", 3, 0}, {"a", 2, 1}, {"b", 2, 0}, {"a", 1, 0},
		{"", 1, 0}, {"", 3, 0}, {"ab", 3, 0}, {"ba", 3, 0}, {"aa", 3, 2}, {"aab", 2, 0},
		{"\x00", 3, 0}, {"\x80", 3, 2}, {"\xff", 2, 1}, {"\xff\xff", 3, 0}, {"\xfe", 3, 2},
		{"é", 3, (0xc3 + 0xa9) % 3}, {"\xc3\xa9\xff", 1000, 0xc3 + 0xa9 + 0xff},
		{"a", 97, 0}, {"a", 98, 97}, {"a", 4, 1}, {"abc", math.MaxInt, 294},
		{strings.Repeat("\xff", 1000), math.MaxInt, 255000}, {strings.Repeat("\xff", 1000), 7, 255000 % 7},
		{"a", 0, 0}, {"a", -1, 0}, {"a", -3, 0}, {"a", math.MinInt, 0}, {"", 0, 0},
	} {
		if got := Default(c.key, c.regions); got != c.want {
			t.Errorf("Default(%q, %d): %d, want %d", c.key, c.regions, got, c.want)
		}
	}
}

// P6.2: values, with Home and Count as they were.
func TestPutAndDelete(t *testing.T) {
	s := made(t, 3)
	s.Delete("a")
	wants(t, s, "a", counted(1, 0))
	s.Put("a", []byte("one"))
	wants(t, s, "a", valued("one", 1, 0))
	s.Put("a", []byte("two"))
	wants(t, s, "a", valued("two", 1, 0))
	s.Put("a", nil)
	wants(t, s, "a", valued("", 1, 0))
	s.Delete("a")
	wants(t, s, "a", counted(1, 0))
	s.Delete("a")
	wants(t, s, "a", counted(1, 0))
	moves(t, s, "a", 2, api.OK)
	s.Put("a", []byte("three"))
	wants(t, s, "a", valued("three", 2, 1))
	s.Delete("a")
	wants(t, s, "a", counted(2, 1))
	wants(t, s, "", counted(0, 0))
	wants(t, s, "aa", counted(2, 0))
}

// P6.2: any key, and any value.
func TestPutOfAnyTexts(t *testing.T) {
	s := made(t, 2)
	long := strings.Repeat("k", 1000)
	for _, key := range []string{"", "\x00", "\xff", long, "a\xffb"} {
		s.Put(key, []byte(long))
		wants(t, s, key, valued(long, Default(key, 2), 0))
		moves(t, s, key, 1, api.OK)
		wants(t, s, key, valued(long, 1, 1))
	}
}

// P6.2: homes, with the value as it was.
func TestMove(t *testing.T) {
	s := made(t, 3)
	moves(t, s, "a", 2, api.OK)
	wants(t, s, "a", counted(2, 1))
	s.Put("b", []byte("x"))
	moves(t, s, "b", 0, api.OK)
	wants(t, s, "b", valued("x", 0, 1))
	moves(t, s, "b", 0, api.OK)
	wants(t, s, "b", valued("x", 0, 2))
	moves(t, s, "b", 2, api.OK)
	wants(t, s, "b", valued("x", 2, 3))
	wants(t, s, "a", counted(2, 1))
	wants(t, s, "c", counted(0, 0))
}

// P6.2: a refused Move changes nothing; the home is asked for first.
func TestMoveErrors(t *testing.T) {
	for regions := 1; regions <= 3; regions++ {
		full := api.Row{Key: "a", Record: valued("x", 0, math.MaxUint64)}
		s := restored(t, regions, full, row("b", valued("y", 0, math.MaxUint64-1)))
		for _, home := range []int{math.MinInt, -1, regions, regions + 1, math.MaxInt} {
			for _, key := range []string{"a", "b", "c"} {
				before := s.Get(key)
				moves(t, s, key, home, api.ErrArg)
				wants(t, s, key, before)
			}
		}
		for home := range regions {
			moves(t, s, "a", home, api.ErrOver)
		}
		wants(t, s, "a", full.Record)
		moves(t, s, "b", regions-1, api.OK)
		wants(t, s, "b", valued("y", regions-1, math.MaxUint64))
		moves(t, s, "b", 0, api.ErrOver)
		wants(t, s, "b", valued("y", regions-1, math.MaxUint64))
		if len(s.Rows()) != 2 {
			t.Errorf("%v", s.Rows())
		}
	}
}

// P6.2: the chapter's example.
func TestExample(t *testing.T) {
	s := made(t, 3)
	wants(t, s, "a", counted(1, 0))
	moves(t, s, "a", 2, api.OK)
	wants(t, s, "a", counted(2, 1))
}

// P6.3: keys with values alone, from a key on, as many as are asked for.
func TestRange(t *testing.T) {
	s := made(t, 3)
	s.Put("c", []byte("3"))
	s.Put("a", []byte("1"))
	s.Put("ab", nil)
	s.Put("b", []byte("gone"))
	s.Put("\xff", []byte("5"))
	s.Delete("b")
	moves(t, s, "b", 1, api.OK)
	moves(t, s, "c", 1, api.OK)
	moves(t, s, "d", 1, api.OK)
	rows := []api.Row{row("a", valued("1", 1, 0)), row("ab", valued("", 0, 0)), row("c", valued("3", 1, 1)), row("\xff", valued("5", 0, 0))}
	for _, c := range []struct {
		from  string
		begin int
	}{{"", 0}, {"a", 0}, {"A", 0}, {"a\x00", 1}, {"aa", 1}, {"ab", 1}, {"ab\x00", 2}, {"b", 2}, {"c", 2}, {"d", 3}, {"\xff", 3}, {"\xff\x00", 4}} {
		for most := -2; most < 7; most++ {
			want := rows[c.begin:]
			want = want[:min(max(most, 0), len(want))]
			rowsAre(t, "Range from "+c.from, s.Range(c.from, most), want...)
		}
		rowsAre(t, "Range from "+c.from, s.Range(c.from, math.MaxInt), rows[c.begin:]...)
		rowsAre(t, "Range from "+c.from, s.Range(c.from, math.MinInt))
	}
}

// P6.3: all that isn't as at the beginning.
func TestRows(t *testing.T) {
	s := made(t, 3)
	s.Put("b", []byte("2"))
	s.Put("gone", []byte("x"))
	s.Put("", nil)
	moves(t, s, "a", 1, api.OK)
	s.Put("moved", []byte("y"))
	moves(t, s, "moved", 0, api.OK)
	s.Delete("moved")
	s.Delete("gone")
	s.Delete("never")
	s.Get("asked")
	moves(t, s, "refused", 3, api.ErrArg)
	rowsAre(t, "Rows", s.Rows(),
		row("", valued("", 0, 0)), row("a", counted(1, 1)), row("b", valued("2", 2, 0)), row("moved", counted(0, 1)))
}

// P6.4: what is done to one isn't seen in the other.
func TestClone(t *testing.T) {
	s := made(t, 3)
	s.Put("a", []byte("one"))
	s.Put("b", []byte("two"))
	moves(t, s, "c", 1, api.OK)
	twin := s.Clone()
	rowsAre(t, "Rows of the clone", twin.Rows(), s.Rows()...)
	s.Put("a", []byte("ONE"))
	s.Delete("b")
	moves(t, s, "c", 2, api.OK)
	s.Put("d", nil)
	rowsAre(t, "Rows of the clone", twin.Rows(), row("a", valued("one", 1, 0)), row("b", valued("two", 2, 0)), row("c", counted(1, 1)))
	before := s.Rows()
	twin.Put("a", nil)
	twin.Delete("d")
	twin.Put("e", []byte("x"))
	moves(t, twin, "b", 3, api.ErrArg)
	moves(t, twin, "b", 2, api.OK)
	rowsAre(t, "Rows of the first", s.Rows(), before...)
}
