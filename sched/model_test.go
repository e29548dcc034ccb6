package sched

import (
	"bytes"
	"fmt"
	"slices"
	"testing"

	"argosy/api"
	"argosy/eval"
	"argosy/store"
)

// model is a sched that is kept by the words of the chapters: plain lists of all who wait, for whichever key.
type model struct {
	records *store.Store
	fed     [3]int
	last    [3]int
	ran     [3][]api.Tag
	came    []arrival
	line    []waiter
	parked  []waiter
	doomed  []api.Tag
}

// arrival is a try that came, with the regions of which its pieces came.
type arrival struct {
	order  api.Order
	ran    bool
	pieces []int
}

type waiter struct {
	tag  api.Tag
	mark api.Mark
}

func newModel(t *testing.T) *model {
	t.Helper()
	records, err := store.New(3)
	if err != api.OK {
		t.Fatal(err)
	}
	return &model{records: records, last: [3]int{-1, -1, -1}}
}

// homes gives an order's homes, in any order, some perhaps twice.
func homes(o api.Order) []int {
	if len(o.Marks) == 0 {
		return []int{0}
	}
	var all []int
	for _, m := range o.Marks {
		all = append(all, m.Home)
	}
	return all
}

func single(o api.Order) bool {
	all := homes(o)
	return o.Txn.Kind == api.TxRun && slices.Min(all) == slices.Max(all)
}

// counts tells whether an item counts, by the words of layer 14.
func (m *model) counts(region int, i api.Item) bool {
	if !slices.Contains(homes(i.Order), region) {
		return false
	}
	if i.Kind == api.ItRun {
		if !single(i.Order) || slices.Contains(m.ran[region], i.Order.Tag) {
			return false
		}
		m.ran[region] = append(m.ran[region], i.Order.Tag)
		return true
	}
	if single(i.Order) || i.Index <= m.last[region] {
		return false
	}
	m.last[region] = i.Index
	return true
}

// feed takes an item that is right.
func (m *model) feed(region int, i api.Item) []api.Decision {
	m.fed[region]++
	if !m.counts(region, i) {
		return nil
	}
	at := slices.IndexFunc(m.came, func(a arrival) bool { return a.order.Tag == i.Order.Tag })
	if at >= 0 && i.Kind == api.ItRun {
		return nil
	}
	if at < 0 {
		at = len(m.came)
		m.came = append(m.came, arrival{order: i.Order, ran: i.Kind == api.ItRun})
	}
	if i.Kind == api.ItPiece {
		m.came[at].pieces = append(m.came[at].pieces, region)
	}
	for _, x := range i.Order.Marks {
		if i.Kind == api.ItRun || x.Home == region {
			m.enter(waiter{i.Order.Tag, x})
		}
	}
	var all []api.Decision
	for at := m.turn(); at >= 0; at = m.turn() {
		all = append(all, m.decide(m.came[at].order))
	}
	return all
}

// enter lets a try wait for a key, by the words of layer 16.
func (m *model) enter(w waiter) {
	for _, other := range slices.Concat(m.line, m.parked) {
		if other.tag == w.tag && other.mark.Key == w.mark.Key {
			return
		}
	}
	m.place(w)
}

func (m *model) place(w waiter) {
	r := m.records.Get(w.mark.Key)
	switch {
	case w.mark.Home == r.Home && w.mark.Count == r.Count:
		m.line = append(m.line, w)
	case w.mark.Count > r.Count:
		m.parked = append(m.parked, w)
	default:
		m.doomed = append(m.doomed, w.tag)
	}
}

// turn gives the place of the try that is decided next; -1, if there is none.
func (m *model) turn() int {
	for at, a := range m.came {
		complete := true
		for _, home := range homes(a.order) {
			complete = complete && slices.Contains(a.pieces, home)
		}
		if (complete || a.ran) && (slices.Contains(m.doomed, a.order.Tag) || m.ready(a.order.Tag)) {
			return at
		}
	}
	return -1
}

func (m *model) ready(tag api.Tag) bool {
	for _, w := range m.parked {
		if w.tag == tag {
			return false
		}
	}
	return len(m.ahead(tag)) == 0
}

func (m *model) ahead(tag api.Tag) []api.Tag {
	var keys []string
	for _, w := range m.line {
		if w.tag == tag {
			keys = append(keys, w.mark.Key)
		}
	}
	slices.Sort(keys)
	var all []api.Tag
	for _, key := range keys {
		for _, w := range m.line {
			if w.mark.Key == key && w.tag == tag {
				break
			}
			if w.mark.Key == key && !slices.Contains(all, w.tag) {
				all = append(all, w.tag)
			}
		}
	}
	return all
}

func (m *model) decide(o api.Order) api.Decision {
	d := api.Decision{Tag: o.Tag, Result: api.Result{Code: api.ErrStale}}
	if !slices.Contains(m.doomed, o.Tag) {
		result, writes := eval.Run(m.records, o.Txn)
		eval.Apply(m.records, writes)
		d.Result = result
	}
	m.line = slices.DeleteFunc(m.line, func(w waiter) bool { return w.tag == o.Tag })
	m.parked = slices.DeleteFunc(m.parked, func(w waiter) bool { return w.tag == o.Tag })
	m.doomed = slices.DeleteFunc(m.doomed, func(tag api.Tag) bool { return tag == o.Tag })
	m.came = slices.DeleteFunc(m.came, func(a arrival) bool { return a.order.Tag == o.Tag })
	if o.Txn.Kind == api.TxMove && d.Result.Code == api.OK {
		m.moved(o.Txn.Writes[0])
	}
	return d
}

func (m *model) moved(key string) {
	r := m.records.Get(key)
	for _, w := range m.line {
		if w.mark.Key == key && (w.mark.Home != r.Home || w.mark.Count != r.Count) {
			m.doomed = append(m.doomed, w.tag)
		}
	}
	parked := m.parked
	m.parked = nil
	for _, w := range parked {
		if w.mark.Key == key {
			m.place(w)
		} else {
			m.parked = append(m.parked, w)
		}
	}
}

// snapshot is a model's bytes, and whether it has any.
func (m *model) snapshot() ([]byte, bool) {
	var logs []kept
	for region := range 3 {
		var tags [][4]uint64
		for _, tag := range m.ran[region] {
			tags = append(tags, [4]uint64{uint64(tag.Id.Node), tag.Id.Epoch, tag.Id.Seq, uint64(tag.Try)})
		}
		slices.SortFunc(tags, func(a, b [4]uint64) int { return slices.Compare(a[:], b[:]) })
		logs = append(logs, kept{uint64(m.fed[region]), uint64(m.last[region] + 1), tags})
	}
	return written(3, m.records.Snapshot(), logs...), len(m.came) == 0
}

func (m *model) waiting() []api.Tag {
	var tags []api.Tag
	for _, a := range m.came {
		tags = append(tags, a.order.Tag)
	}
	return tags
}

// alike tells whether a Sched and a model are, by all that they tell.
func alike(s *Sched, m *model, tags []api.Tag) bool {
	for region := range 3 {
		if s.Fed(region) != m.fed[region] || s.Last(region) != m.last[region] {
			return false
		}
	}
	for _, tag := range tags {
		if !slices.Equal(s.Ahead(tag), m.ahead(tag)) {
			return false
		}
	}
	got, err := s.Snapshot()
	want, quiet := m.snapshot()
	if quiet && (err != api.OK || !bytes.Equal(got, want)) || !quiet && (err != api.ErrBusy || len(got) > 0) {
		return false
	}
	return slices.Equal(s.Waiting(), m.waiting()) && fmt.Sprint(s.Rows()) == fmt.Sprint(m.records.Rows())
}

// entry is an item of a region's log.
type entry struct {
	region int
	item   api.Item
}

// fewEntries are of two keys, a (at home in 1 at the beginning) and b (in 2), and of six tags.
func fewEntries() []entry {
	both := adding(2, mark("a", 1, 0), mark("b", 2, 0))
	return []entry{
		{1, run(adding(1, mark("a", 1, 0)))},
		{2, run(adding(1, mark("b", 2, 0)))},
		{1, piece(0, both)},
		{2, piece(0, both)},
		{2, piece(2, both)},
		{1, piece(1, moving(3, 2, mark("a", 1, 0)))},
		{2, piece(1, moving(4, 2, mark("a", 2, 1)))},
		{2, run(adding(4, mark("a", 2, 1)))},
		{2, run(givingUp(5, mark("b", 2, 0)))},
		{0, run(adding(6, mark("b", 0, 0)))},
		{1, piece(2, adding(6, mark("a", 1, 0), mark("b", 2, 1)))},
	}
}

// P17.2 to P17.5: all rows of five entries.
func TestAllRows(t *testing.T) {
	const length = 5
	all := fewEntries()
	rows := 1
	for range length {
		rows *= len(all)
	}
	for row := range rows {
		s, m := began(t, 3), newModel(t)
		for i, rest := 0, row; i < length; i, rest = i+1, rest/len(all) {
			e := all[rest%len(all)]
			got, want := s.Feed(e.region, e.item), m.feed(e.region, e.item)
			if len(got) != len(want) || len(got) > 0 && fmt.Sprint(got) != fmt.Sprint(want) {
				t.Fatalf("row %d, entry %d: %v, want %v", row, i, got, want)
			}
		}
		if !alike(s, m, numberedAll(1, 2, 3, 4, 5, 6)) {
			t.Fatalf("row %d: %v, %v, %v, %v", row, m.came, m.line, m.parked, m.doomed)
		}
	}
}

// thrown gives an entry of which a few keys' marks are mostly as a Sched has them, and at times some Counts before or behind.
func thrown(s *Sched, next func(int) int) entry {
	var marks []api.Mark
	for _, key := range []string{"a", "b", "c", "d"} {
		if next(3) > 0 {
			continue
		}
		m := s.Make(numbered(1), moving(1, 0, mark(key, 0, 0)).Txn).Marks[0]
		switch next(9) {
		case 0:
			m.Home, m.Count = next(3), m.Count+1
		case 1:
			m.Home, m.Count = next(3), m.Count+uint64(next(3))
		case 2:
			m.Count -= min(m.Count, uint64(next(2)))
		}
		marks = append(marks, m)
	}
	o := adding(uint64(1+next(20)), marks...)
	if len(marks) == 1 && next(2) == 0 {
		o = moving(o.Tag.Id.Seq, next(3), marks[0])
	}
	if len(marks) == 1 && next(5) == 0 {
		o = givingUp(o.Tag.Id.Seq, marks[0])
	}
	e := entry{homes(o)[next(len(homes(o)))], run(o)}
	if !single(o) {
		e.item = piece(max(s.Last(e.region)-1+next(3), 0), o)
	}
	return e
}

// others gives the pieces of an entry's order for its other homes.
func others(s *Sched, e entry) []entry {
	all := homes(e.item.Order)
	slices.Sort(all)
	var pieces []entry
	for _, home := range slices.Compact(all) {
		if home != e.region {
			pieces = append(pieces, entry{home, piece(s.Last(home)+1, e.item.Order)})
		}
	}
	return pieces
}

// P17.2 to P17.5: long rows, in which all that is told is held against the model behind each entry; where nobody waits, what is restored goes on.
func TestLongRows(t *testing.T) {
	next := steps(17)
	codes, waited, again := map[api.Errno]int{}, 0, 0
	for row := range 250 {
		s, m := began(t, 3), newModel(t)
		for range 20 {
			entries := []entry{thrown(s, next)}
			if next(2) == 0 {
				entries = append(entries, others(s, entries[0])...)
			}
			for _, e := range entries {
				got, want := s.Feed(e.region, e.item), m.feed(e.region, e.item)
				if fmt.Sprint(got) != fmt.Sprint(want) || !alike(s, m, numberedAll(1, 2, 3, 5, 8, 13, 20, 21)) {
					t.Fatalf("row %d: %v: %v, want %v", row, e, got, want)
				}
				for _, d := range got {
					codes[d.Result.Code]++
				}
			}
			waited += len(m.came)
			if data, quiet := m.snapshot(); quiet {
				s = restored(t, data, 3)
				again++
			}
		}
	}
	if codes[api.OK] < 900 || codes[api.ErrStale] < 90 || codes[api.ErrAbort] < 90 || waited < 5000 || again < 500 {
		t.Errorf("only %v decisions, %d waited, %d were restored", codes, waited, again)
	}
}
