package eval

import (
	"bytes"
	"maps"
	"slices"

	"argosy/api"
	"argosy/store"
)

// run is a transaction's operations under way.
type run struct {
	store   *store.Store
	written map[string]api.Record // what its keys have instead of what the store has
	outs    []api.Out
}

// do does an operation over what the ones ahead of it have left.
func (r *run) do(op api.Op) api.Errno {
	switch op.Kind {
	case api.OpRead:
		record := r.record(op.Key)
		r.emit(record.Has, record.Value)
	case api.OpWrite:
		r.write(op.Key, true, op.Value)
	case api.OpDelete:
		r.write(op.Key, false, nil)
	case api.OpCheck:
		record := r.record(op.Key)
		if !record.Has || !bytes.Equal(record.Value, op.Value) {
			return api.ErrAbort
		}
	case api.OpAbsent:
		if r.record(op.Key).Has {
			return api.ErrAbort
		}
	case api.OpAdd:
		return r.add(op.Key, op.N)
	case api.OpEmit:
		r.emit(true, op.Value)
	}
	return api.OK
}

// record gives what a key has by now.
func (r *run) record(key string) api.Record {
	if record, ok := r.written[key]; ok {
		return record
	}
	return r.store.Get(key)
}

// write lets a key have a value, or none, and its home as it is.
func (r *run) write(key string, has bool, value []byte) {
	record := r.record(key)
	record.Has, record.Value = has, slices.Clone(value)
	r.written[key] = record
}

// emit puts out a copy of a value, as the same one may be put out again, or written.
func (r *run) emit(has bool, value []byte) {
	r.outs = append(r.outs, api.Out{Has: has, Value: slices.Clone(value)})
}

// add adds to a key's number.
func (r *run) add(key string, n int64) api.Errno {
	number := int64(0)
	if record := r.record(key); record.Has {
		is := false
		if number, is = Number(record.Value); !is {
			return api.ErrAbort
		}
	}
	sum, fits := together(number, n)
	if !fits {
		return api.ErrOver
	}
	r.write(key, true, Value(sum))
	return api.OK
}

// rows gives a row of each key that was written.
func (r *run) rows() []api.Row {
	rows := make([]api.Row, 0, len(r.written))
	for _, key := range slices.Sorted(maps.Keys(r.written)) {
		rows = append(rows, api.Row{Key: key, Record: r.written[key]})
	}
	return rows
}
