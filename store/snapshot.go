package store

import (
	"cmp"

	"argosy/api"
	"argosy/code"
)

// How a snapshot tells whether a key has a value.
const (
	hasNot = 0
	has    = 1
)

// Snapshot puts all into bytes.
func (s *Store) Snapshot() []byte {
	p := &code.Pen{}
	p.Num(uint64(s.regions))
	p.Num(uint64(s.records.Len()))
	for key, record := range s.records.All() {
		p.Text([]byte(key))
		p.Byte(hasByte(record))
		p.Text(record.Value)
		p.Num(uint64(record.Home))
		p.Num(record.Count)
	}
	return p.Data()
}

// Restore gives the Store of bytes.
func Restore(data []byte, regions int) (*Store, api.Errno) {
	s, err := New(regions)
	if err != api.OK {
		return nil, api.ErrForm
	}
	r := reader{Eye: code.NewEye(data), store: s}
	if !r.whole() {
		return nil, api.ErrForm
	}
	return s, api.OK
}

func hasByte(record api.Record) byte {
	if record.Has {
		return has
	}
	return hasNot
}

// reader reads a snapshot into an empty store.
type reader struct {
	*code.Eye
	store *Store
}

// whole reads all, and tells whether it is what Snapshot writes.
func (r reader) whole() bool {
	regions, err := r.Num()
	if err != api.OK || regions != uint64(r.store.regions) {
		return false
	}
	count, err := r.Num()
	if err != api.OK {
		return false
	}
	last := ""
	for i := range count {
		row, ok := r.row()
		if !ok || i > 0 && row.Key <= last {
			return false
		}
		r.store.keep(row.Key, row.Record)
		last = row.Key
	}
	return r.End() == api.OK
}

// row reads a row, and tells whether it is one that the store can have.
func (r reader) row() (api.Row, bool) {
	key, noKey := r.Text()
	mark, noMark := r.Byte()
	value, noValue := r.Text()
	home, noHome := r.Num()
	count, noCount := r.Num()
	// Behind an error what was read means nothing.
	if cmp.Or(noKey, noMark, noValue, noHome, noCount) != api.OK || mark > has || home >= uint64(r.store.regions) {
		return api.Row{}, false
	}
	row := api.Row{Key: string(key), Record: api.Record{Has: mark == has, Value: value, Home: int(home), Count: count}}
	return row, r.canHave(row)
}

// canHave tells whether the store's calls can make a row, but for its Count.
func (r reader) canHave(row api.Row) bool {
	record := row.Record
	valued := record.Has || len(record.Value) == 0
	home := record.Count != 0 || record.Home == Default(row.Key, r.store.regions)
	return isRow(record) && valued && home
}
