package sched

import (
	"bytes"
	"fmt"
	"math"
	"slices"
	"testing"

	"argosy/api"
	"argosy/code"
	"argosy/store"
)

// kept is what a snapshot has of a region's log, as numbers that may be none that a Sched has.
type kept struct {
	fed, behind uint64 // behind is Last and 1 together
	tags        [][4]uint64
}

// none is what a snapshot has of a log of which nothing was fed.
var none = kept{}

// written is a snapshot by the words of the promise.
func written(regions uint64, records []byte, logs ...kept) []byte {
	p := &code.Pen{}
	p.Num(regions)
	for _, k := range logs {
		p.Num(k.fed)
		p.Num(k.behind)
		p.Num(uint64(len(k.tags)))
		for _, tag := range k.tags {
			for _, n := range tag {
				p.Num(n)
			}
		}
	}
	p.Text(records)
	return p.Data()
}

// stored is the snapshot of a store with these rows.
func stored(t *testing.T, regions int, rows ...api.Row) []byte {
	t.Helper()
	p := &code.Pen{}
	p.Num(uint64(regions))
	p.Num(uint64(len(rows)))
	for _, r := range rows {
		p.Text([]byte(r.Key))
		if r.Record.Has {
			p.Byte(1)
		} else {
			p.Byte(0)
		}
		p.Text(r.Record.Value)
		p.Num(uint64(r.Record.Home))
		p.Num(r.Record.Count)
	}
	if _, err := store.Restore(p.Data(), regions); err != api.OK {
		t.Fatalf("there is no store of %v", rows)
	}
	return p.Data()
}

// refuses asks Restore of bytes that no Sched's Snapshot gives.
func refuses(t *testing.T, name string, data []byte, regions int) {
	t.Helper()
	if s, err := Restore(data, regions); s != nil || err != api.ErrForm {
		t.Errorf("Restore of %s: %v, %v", name, s, err)
	}
}

// takes restores bytes, and fails, unless they are those of what was restored.
func takes(t *testing.T, name string, data []byte, regions int) *Sched {
	t.Helper()
	s, err := Restore(data, regions)
	if s == nil || err != api.OK {
		t.Fatalf("Restore of %s: %v, %v", name, s, err)
	}
	if got := snapshot(t, s); !bytes.Equal(got, data) {
		t.Errorf("of %s: %v, want %v", name, got, data)
	}
	waits(t, s)
	return s
}

// P17.5: the bytes.
func TestSnapshot(t *testing.T) {
	for regions := 1; regions <= 3; regions++ {
		s := began(t, regions)
		want := slices.Concat([]byte{byte(regions)}, bytes.Repeat([]byte{0, 0, 0}, regions), []byte{2, byte(regions), 0})
		if got := snapshot(t, s); !bytes.Equal(got, want) {
			t.Errorf("of nothing: %v, want %v", got, want)
		}
	}
	s := began(t, 2)
	o := adding(3, mark("a", 1, 0))
	o.Tag = tagOf(8, 300, 1, 2)
	feeds(t, s, 1, run(o), api.Decision{Tag: o.Tag, Result: done(3, 1).Result})
	feeds(t, s, 1, run(adding(7, mark("a", 1, 0))), done(7, 2))
	feeds(t, s, 1, run(adding(7, mark("a", 1, 0))))
	feeds(t, s, 0, piece(5, moving(2, 1, mark("b", 0, 0))), done(2))
	want := []byte{
		2,
		1, 6, 0,
		3, 0, 2, 0, 1, 7, 0, 8, 172, 2, 1, 2,
		22, 2, 2, 1, 'a', 1, 8, 0, 0, 0, 0, 0, 0, 0, 2, 1, 0, 1, 'b', 0, 0, 1, 1,
	}
	if got := snapshot(t, s); !bytes.Equal(got, want) {
		t.Errorf("%v, want %v", got, want)
	}
	takes(t, "two regions", want, 2)
}

// P17.5: no snapshot is given while any waits, complete or not.
func TestBusy(t *testing.T) {
	busy := func(s *Sched) {
		t.Helper()
		if data, err := s.Snapshot(); len(data) > 0 || err != api.ErrBusy {
			t.Errorf("Snapshot: %v, %v", data, err)
		}
	}
	s := began(t, 3)
	both := adding(1, mark("a", 1, 0), mark("b", 2, 0))
	feeds(t, s, 1, piece(0, both))
	busy(s)
	busy(s)
	feeds(t, s, 2, piece(0, both), done(1, 1, 1))
	snapshot(t, s)
	feeds(t, s, 2, run(adding(2, mark("a", 2, 1))))
	busy(s)
	feeds(t, s, 1, piece(1, moving(3, 2, mark("a", 1, 0))), done(3), done(2, 2))
	snapshot(t, s)
}

// P17.5: what Restore takes, up to the edges.
func TestRestore(t *testing.T) {
	for regions := 1; regions <= 3; regions++ {
		empty := stored(t, regions)
		for _, edge := range []kept{
			{fed: 1}, {fed: 63}, {fed: 64}, {behind: 1}, {behind: 63}, {behind: 64}, {fed: 64, behind: 64},
			{fed: 1, tags: [][4]uint64{{0, 1, 1, 0}}}, {fed: 1, tags: [][4]uint64{{8, math.MaxUint64, math.MaxUint64, 2}}},
			{fed: 7, tags: [][4]uint64{{0, 1, 1, 1}, {0, 1, 1, 2}, {0, 1, 2, 0}, {0, 2, 1, 0}, {0, 1 << 63, 1, 0}, {1, 1, 1, 0}, {8, 1, 1, 0}}},
		} {
			for region := range regions {
				logs := make([]kept, regions)
				logs[region] = edge
				s := takes(t, fmt.Sprint(edge), written(uint64(regions), empty, logs...), regions)
				counts, places := []int{0, 0, 0}, []int{-1, -1, -1}
				counts[region], places[region] = int(edge.fed), int(edge.behind)-1
				fed(t, s, counts...)
				lasts(t, s, places...)
				rows(t, s)
			}
		}
	}
	want := []api.Row{row("a", 7, 0, 5), moved("c", 1, math.MaxUint64), row("d", 3, 1, 0)}
	rows(t, takes(t, "records", written(3, stored(t, 3, want...), none, none, none), 3), want...)
}

// P17.5: what Restore refuses of a log.
func TestRestoreRefuses(t *testing.T) {
	for regions := 1; regions <= 3; regions++ {
		empty := stored(t, regions)
		for _, wrong := range []kept{
			{fed: 65}, {fed: 1 << 32}, {fed: 1 << 63}, {fed: math.MaxUint64}, {behind: 65}, {behind: 1 << 32}, {behind: math.MaxUint64},
			{tags: [][4]uint64{{9, 1, 1, 0}}}, {tags: [][4]uint64{{math.MaxUint64, 1, 1, 0}}}, {tags: [][4]uint64{{0, 0, 1, 0}}},
			{tags: [][4]uint64{{0, 1, 0, 0}}}, {tags: [][4]uint64{{0, 1, 1, 3}}}, {tags: [][4]uint64{{0, 1, 1, math.MaxUint64}}},
			{tags: [][4]uint64{{1 << 32, 1, 1, 0}}}, {tags: [][4]uint64{{0, 1, 1, 1 << 32}}},
			{tags: [][4]uint64{{0, 1, 1, 0}, {0, 1, 1, 0}}}, {tags: [][4]uint64{{0, 1, 1, 1}, {0, 1, 1, 0}}},
			{tags: [][4]uint64{{0, 1, 2, 0}, {0, 1, 1, 0}}}, {tags: [][4]uint64{{0, 2, 1, 0}, {0, 1, 2, 0}}},
			{tags: [][4]uint64{{1, 1, 1, 0}, {0, 2, 1, 0}}}, {tags: [][4]uint64{{0, 1, 1, 0}, {0, 1, 3, 0}, {0, 1, 2, 0}}},
		} {
			for region := range regions {
				logs := make([]kept, regions)
				logs[region] = wrong
				refuses(t, fmt.Sprint(wrong), written(uint64(regions), empty, logs...), regions)
			}
		}
	}
}

// P17.5: a snapshot is one of so many regions.
func TestRestoreRegions(t *testing.T) {
	for told := range 5 {
		for logs := range 5 {
			for records := 1; records <= 3; records++ {
				data := written(uint64(told), stored(t, records), make([]kept, logs)...)
				for _, regions := range []int{math.MinInt, -1, 0, 1, 2, 3, 4, math.MaxInt} {
					s, err := Restore(data, regions)
					right := regions >= 1 && regions <= 3 && told == regions && logs == regions && records == regions
					if right != (s != nil) || right != (err == api.OK) || !right && err != api.ErrForm {
						t.Errorf("of %d, %d logs, records of %d; for %d: %v, %v", told, logs, records, regions, s, err)
					}
				}
			}
		}
	}
	refuses(t, "many regions", written(math.MaxUint64, stored(t, 1), none), -1)
	refuses(t, "many regions", written(1<<32+1, stored(t, 1), none), 1)
}

// P17.5: what Restore refuses of the records, and of bytes as a whole.
func TestRestoreRefusesBytes(t *testing.T) {
	a := row("a", 1, 1, 0)
	records := stored(t, 2, a)
	right := written(2, records, kept{fed: 3, behind: 2, tags: [][4]uint64{{0, 1, 1, 0}, {0, 1, 300, 0}}}, none)
	takes(t, "what is right", right, 2)
	for length := range right {
		refuses(t, fmt.Sprintf("%d bytes", length), right[:length], 2)
	}
	refuses(t, "one more byte", append(slices.Clone(right), 0), 2)
	refuses(t, "a snapshot twice", slices.Concat(right, right), 2)
	refuses(t, "no records", written(2, nil, none, none), 2)
	refuses(t, "torn records", written(2, records[:len(records)-1], none, none), 2)
	refuses(t, "records and a byte", written(2, append(slices.Clone(records), 0), none, none), 2)
	refuses(t, "nothing", nil, 1)
	refuses(t, "a number of two forms", []byte{1, 128, 0, 0, 0, 2, 1, 0}, 1)
	refuses(t, "a number of two forms", []byte{1, 0, 128, 0, 0, 2, 1, 0}, 1)
	refuses(t, "a number of two forms", []byte{1, 0, 0, 128, 0, 2, 1, 0}, 1)
	refuses(t, "a number of two forms", []byte{129, 0, 0, 0, 0, 2, 1, 0}, 1)
	for _, count := range []uint64{1, 2, 1 << 32, 1 << 63, math.MaxUint64} {
		p := &code.Pen{}
		for _, n := range []uint64{1, 0, 0, count} {
			p.Num(n)
		}
		refuses(t, "many tags told", p.Data(), 1)
		refuses(t, "many tags told", append(p.Data(), 0, 1, 1), 1)
		p.Text(stored(t, 1))
		refuses(t, "many tags told", p.Data(), 1)
	}
}

// P17.5: whatever one byte is, what Restore takes is what Snapshot gives of it.
func TestEachByte(t *testing.T) {
	records := stored(t, 2, row("a", 1, 1, 0), moved("b", 0, 2))
	right := written(2, records, kept{fed: 3, behind: 2, tags: [][4]uint64{{0, 1, 1, 0}, {0, 1, 2, 1}}}, kept{fed: 1})
	taken := 0
	for at := range right {
		for b := range 256 {
			data := slices.Clone(right)
			data[at] = byte(b)
			s, err := Restore(data, 2)
			if err != api.OK {
				refuses(t, fmt.Sprintf("%v, whose byte %d is %d,", right, at, b), data, 2)
				continue
			}
			taken++
			if got := snapshot(t, s); !bytes.Equal(got, data) {
				t.Errorf("%v, want %v", got, data)
			}
		}
	}
	if taken < 1000 || taken > len(right)*200 {
		t.Errorf("%d of %d were taken", taken, len(right)*256)
	}
}

// P17.5: one that is restored goes on as the elder one.
func TestRestoredGoesOn(t *testing.T) {
	s := began(t, 3)
	feeds(t, s, 1, run(adding(1, mark("a", 1, 0))), done(1, 1))
	feeds(t, s, 1, piece(4, moving(2, 2, mark("d", 1, 0))), done(2))
	feeds(t, s, 2, run(adding(3, mark("b", 2, 0), mark("d", 2, 1))), done(3, 1, 1))
	both := adding(4, mark("a", 1, 0), mark("b", 2, 0))
	for _, r := range []*Sched{restored(t, snapshot(t, s), 3), s} {
		fed(t, r, 0, 2, 1)
		lasts(t, r, -1, 4, -1)
		rows(t, r, row("a", 1, 1, 0), row("b", 1, 2, 0), row("d", 1, 2, 1))
		feeds(t, r, 1, run(adding(1, mark("a", 1, 0))))
		feeds(t, r, 1, piece(4, both))
		feeds(t, r, 2, run(adding(3, mark("b", 2, 0))))
		waits(t, r)
		feeds(t, r, 2, run(adding(1, mark("b", 2, 0))), done(1, 2))
		feeds(t, r, 1, run(adding(5, mark("d", 1, 0))), failed(5, api.ErrStale))
		feeds(t, r, 1, piece(5, both))
		feeds(t, r, 2, piece(5, both), done(4, 2, 3))
		fed(t, r, 0, 6, 4)
		lasts(t, r, -1, 5, 5)
	}
}

// P17.5, rule 6: a Sched and what is restored of it are two.
func TestRestoredIsByItself(t *testing.T) {
	s := began(t, 3)
	feeds(t, s, 1, run(adding(1, mark("a", 1, 0))), done(1, 1))
	data := snapshot(t, s)
	one, two := restored(t, data, 3), restored(t, data, 3)
	feeds(t, one, 1, run(adding(2, mark("a", 1, 0))), done(2, 2))
	feeds(t, one, 1, piece(3, adding(3, mark("a", 1, 0), mark("b", 2, 0))))
	for _, r := range []*Sched{two, s} {
		fed(t, r, 0, 1, 0)
		lasts(t, r, -1, -1, -1)
		waits(t, r)
		rows(t, r, row("a", 1, 1, 0))
		feeds(t, r, 1, run(adding(2, mark("a", 1, 0))), done(2, 2))
	}
}
