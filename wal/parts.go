package wal

import (
	"slices"

	"argosy/api"
	"argosy/code"
)

// partsMost is how many parts a log has at most: as many as there are digits.
const partsMost = 10

// file gives the name of a part's file.
func (l *Log) file(part int) string {
	return l.name + string('0'+rune(part))
}

// read takes the records of the parts that are there without a gap, and cuts the first part that is torn.
func (l *Log) read() api.Errno {
	for part := range partsMost {
		data, err := l.disk.Read(l.file(part))
		if err == api.ErrNoFile {
			return api.OK
		}
		if err != api.OK {
			return err
		}
		l.last, l.used = part, l.take(data)
		if l.used < len(data) {
			return l.disk.Cut(l.file(part), l.used)
		}
	}
	return api.OK
}

// take takes the records with which a part's bytes begin, and tells how many bytes their frames have.
func (l *Log) take(data []byte) int {
	at := 0
	for at < len(data) {
		record, size, err := code.Unframe(data[at:])
		if err != api.OK {
			break
		}
		l.records = append(l.records, record)
		at += size
	}
	return at
}

// removeLater removes the parts behind the last one that was read: those behind a torn one, and those behind a gap.
func (l *Log) removeLater() api.Errno {
	names := l.disk.Names()
	for i := range partsMost - 1 - l.last {
		file := l.file(partsMost - 1 - i)
		if !slices.Contains(names, file) {
			continue
		}
		if err := l.disk.Remove(file); err != api.OK {
			return err
		}
	}
	return api.OK
}
