package store

import (
	"bytes"
	"math"
	"slices"
	"strconv"
	"strings"
	"testing"

	"argosy/api"
	"argosy/code"
)

// written is a snapshot by the words of the promise, of rows that may be none that a store has.
func written(regions uint64, rows ...api.Row) []byte {
	p := &code.Pen{}
	p.Num(regions)
	p.Num(uint64(len(rows)))
	for _, r := range rows {
		p.Text([]byte(r.Key))
		if r.Record.Has {
			p.Byte(1)
		} else {
			p.Byte(0)
		}
		p.Text(r.Record.Value)
		p.Num(uint64(r.Record.Home))
		p.Num(r.Record.Count)
	}
	return p.Data()
}

// restored gives a store with rows, which may have any counts.
func restored(t *testing.T, regions int, rows ...api.Row) *Store {
	t.Helper()
	s, err := Restore(written(uint64(regions), rows...), regions)
	if s == nil || err != api.OK {
		t.Fatalf("Restore of %v: %v", rows, err)
	}
	rowsAre(t, "Rows of what was restored", s.Rows(), rows...)
	return s
}

// refuses asks Restore of bytes that no store's Snapshot gives.
func refuses(t *testing.T, name string, data []byte, regions int) {
	t.Helper()
	if s, err := Restore(data, regions); s != nil || err != api.ErrForm {
		t.Errorf("Restore of %s: %v, %v", name, s, err)
	}
}

// P6.4: the bytes.
func TestSnapshot(t *testing.T) {
	s := made(t, 3)
	if got := s.Snapshot(); !bytes.Equal(got, []byte{3, 0}) {
		t.Errorf("of nothing: %v", got)
	}
	s.Put("b", []byte("xyz"))
	s.Put("", nil)
	moves(t, s, "a", 2, api.OK)
	moves(t, s, "b", 0, api.OK)
	s.Put("gone", []byte("x"))
	s.Delete("gone")
	want := []byte{3, 3, 0, 1, 0, 0, 0, 1, 'a', 0, 0, 2, 1, 1, 'b', 1, 3, 'x', 'y', 'z', 0, 1}
	if got := s.Snapshot(); !bytes.Equal(got, want) {
		t.Errorf("%v, want %v", got, want)
	}
}

// P6.4: numbers of more than one byte.
func TestSnapshotOfMuch(t *testing.T) {
	long := strings.Repeat("k", 200)
	var rows []api.Row
	for i := range 300 {
		key := long + strconv.Itoa(1000+i)
		rows = append(rows, row(key, valued(long, i%2, uint64(i)<<55+1)))
	}
	s := restored(t, 2, rows...)
	if got := s.Snapshot(); !bytes.Equal(got, written(2, rows...)) {
		t.Errorf("%d bytes", len(got))
	}
}

// P6.4: Restore gives the store, which goes on as one does.
func TestRestore(t *testing.T) {
	for regions := 1; regions <= 3; regions++ {
		restored(t, regions)
		for home := range regions {
			for _, count := range []uint64{1, 2, 127, 128, 1 << 63, math.MaxUint64} {
				restored(t, regions, row("", counted(home, count)))
				restored(t, regions, row("k", valued("", home, count)), row("ka", valued("v", home, count)))
			}
		}
		restored(t, regions, row("a", valued("v", Default("a", regions), 0)), row("b", valued("", Default("b", regions), 0)))
	}
	s := restored(t, 3, row("a", valued("x", 2, 5)), row("b", counted(0, 1)))
	moves(t, s, "a", 3, api.ErrArg)
	moves(t, s, "a", 0, api.OK)
	s.Put("b", []byte("y"))
	wants(t, s, "c", counted(0, 0))
	rowsAre(t, "Rows", s.Rows(), row("a", valued("x", 0, 6)), row("b", valued("y", 0, 1)))
}

// P6.4: a snapshot is one of so many regions.
func TestRestoreRegions(t *testing.T) {
	for _, written := range [][]byte{{0, 0}, {1, 0}, {2, 0}, {3, 0}, {4, 0}} {
		for _, regions := range []int{math.MinInt, -1, 0, 1, 2, 3, 4, math.MaxInt} {
			s, err := Restore(written, regions)
			right := int(written[0]) == regions && regions >= 1 && regions <= 3
			if right != (err == api.OK) || right != (s != nil) || !right && err != api.ErrForm {
				t.Errorf("Restore of %v, %d: %v, %v", written, regions, s, err)
			}
		}
	}
	refuses(t, "many regions", written(math.MaxUint64), -1)
	refuses(t, "many regions", written(1<<32+1), 1)
	refuses(t, "a number of two forms", []byte{131, 0, 0}, 3)
}

// P6.4: what the rows of no store are.
func TestRestoreErrors(t *testing.T) {
	a, b := row("a", valued("x", 1, 0)), row("b", valued("y", 0, 3))
	restored(t, 3, a, b)
	for name, data := range map[string][]byte{
		"nothing":                 {},
		"a part of a number":      {128},
		"keys that fall":          written(3, b, a),
		"a key twice":             written(3, a, a),
		"a key in two rows":       written(3, a, row("a", valued("z", 2, 1))),
		"the empty key twice":     written(3, row("", valued("", 0, 0)), row("", valued("", 0, 0))),
		"an empty key last":       written(3, a, row("", valued("", 0, 0))),
		"a key ahead of its head": written(3, row("ab", counted(0, 1)), a),
		"no row":                  written(3, row("a", counted(1, 0))),
		"a value that isn't had":  written(3, row("a", api.Record{Value: []byte("x"), Home: 1, Count: 1})),
		"a home beyond":           written(3, row("a", counted(3, 1))),
		"a home far beyond":       written(3, row("a", counted(-1, 1))),
		"a home that wraps":       written(3, row("a", counted(1<<32, 1))),
		"a valued home beyond":    written(3, row("a", valued("", 3, 1))),
		"another first home":      written(3, row("a", valued("x", 2, 0))),
		"another first home, 0":   written(3, row("a", valued("x", 0, 0))),
		"a tail":                  append(written(3, a, b), 0),
		"a row behind":            append(written(3, a), written(3, b)[2:]...),
		"Has of 2":                {3, 1, 1, 'a', 2, 0, 1, 1},
		"Has of 255":              {3, 1, 1, 'a', 255, 0, 1, 1},
		"fewer rows than told":    {3, 2, 1, 'a', 0, 0, 1, 1},
		"very many rows":          append([]byte{3, 255, 255, 255, 255, 255, 255, 255, 255, 255, 1}, written(3, a, b)[2:]...),
		"too great a number":      {3, 1, 1, 'a', 0, 0, 1, 255, 255, 255, 255, 255, 255, 255, 255, 255, 2},
		"a Count of two forms":    {3, 1, 1, 'a', 0, 0, 1, 129, 0},
		"a Home of two forms":     {3, 1, 1, 'a', 0, 0, 129, 0, 1},
		"a number of two forms":   {3, 129, 0, 1, 'a', 0, 0, 1, 1},
		"a text of two forms":     {3, 1, 129, 0, 'a', 0, 0, 1, 1},
		"a value of two forms":    {3, 1, 1, 'a', 1, 129, 0, 'x', 1, 1},
	} {
		refuses(t, name, data, 3)
	}
	whole := written(3, a, b)
	for n := range whole {
		refuses(t, "the first "+strconv.Itoa(n)+" bytes", whole[:n], 3)
	}
}

// P6.4: bytes that are taken are those that the store's Snapshot gives.
func TestRestoreOfAnyBytes(t *testing.T) {
	next := steps(1)
	whole := written(3, row("a", valued("x", 1, 0)), row("ab", counted(2, 1)), row("b", valued("", 0, 3)), row("ba", valued("yz", 2, 200)))
	taken := 0
	for range 30000 {
		data := slices.Clone(whole)
		for range 1 + next(3) {
			at := next(len(data))
			switch next(3) {
			case 0:
				data[at] = byte(next(256))
			case 1:
				data[at] ^= byte(1 << next(8))
			case 2:
				data = slices.Delete(data, at, at+1)
			}
		}
		regions := 1 + next(3)
		s, err := Restore(data, regions)
		if err == api.OK {
			taken++
			if !bytes.Equal(s.Snapshot(), data) {
				t.Fatalf("%v is taken as %v", data, s.Snapshot())
			}
		} else if s != nil || err != api.ErrForm {
			t.Fatalf("%v: %v, %v", data, s, err)
		}
	}
	if taken == 0 {
		t.Error("none was taken")
	}
}
