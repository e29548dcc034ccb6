package disk

import "slices"

// file is bytes, the first of which last.
type file struct {
	data  []byte
	lasts int
}

// crashed gives the file as it is when the power is back: keep tells, round and round, how many of the bytes that don't last are there nevertheless.
func (f *file) crashed(keep int) *file {
	choices := len(f.data) - f.lasts + 1
	more := keep % choices
	if more < 0 {
		more += choices
	}
	kept := slices.Clone(f.data[:f.lasts+more])
	return &file{data: kept, lasts: len(kept)}
}
