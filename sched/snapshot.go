package sched

import (
	"math"
	"slices"

	"argosy/api"
	"argosy/code"
	"argosy/filter"
	"argosy/store"
)

// Snapshot puts all into bytes.
func (s *Sched) Snapshot() ([]byte, api.Errno) {
	if len(s.came) > 0 {
		return nil, api.ErrBusy
	}
	p := &code.Pen{}
	p.Num(uint64(len(s.logs)))
	for _, at := range s.logs {
		tags := at.filter.Tags()
		for _, n := range [...]uint64{uint64(at.fed), uint64(at.filter.Last() + 1), uint64(len(tags))} {
			p.Num(n)
		}
		for _, tag := range tags {
			writeTag(p, tag)
		}
	}
	p.Text(s.records.Snapshot())
	return p.Data(), api.OK
}

// Restore gives the Sched of bytes.
func Restore(data []byte, regions int) (*Sched, api.Errno) {
	s, err := New(regions)
	if err != api.OK {
		return nil, api.ErrForm
	}
	r := &reader{Eye: code.NewEye(data)}
	r.num(uint64(regions), uint64(regions))
	for region := range s.logs {
		s.logs[region] = r.log(region)
	}
	s.records = r.records(regions)
	if r.wrong || r.End() != api.OK {
		return nil, api.ErrForm
	}
	return s, api.OK
}

func writeTag(p *code.Pen, tag api.Tag) {
	for _, n := range [...]uint64{uint64(tag.Id.Node), tag.Id.Epoch, tag.Id.Seq, uint64(tag.Try)} {
		p.Num(n)
	}
}

// reader reads a snapshot. What it reads means nothing, once anything there was wrong.
type reader struct {
	*code.Eye
	wrong bool
}

// log reads what was fed of a region's log.
func (r *reader) log(region int) log {
	fed, last, tags := r.small(api.MaxLog), r.small(api.MaxLog)-1, r.tags()
	f := filter.Restore(region, last, tags)
	// A filter tells each tag once, rising, however they were handed in.
	if !slices.Equal(f.Tags(), tags) {
		r.wrong = true
	}
	return log{fed: fed, filter: f}
}

// tags reads how many tags there are, and they; no more than there are bytes for, whatever number is told.
func (r *reader) tags() []api.Tag {
	var tags []api.Tag
	for range r.num(0, math.MaxUint64) {
		tag := r.tag()
		if r.wrong {
			return nil
		}
		tags = append(tags, tag)
	}
	return tags
}

func (r *reader) tag() api.Tag {
	id := api.Id{Node: r.small(api.MaxNodes - 1), Epoch: r.num(1, math.MaxUint64), Seq: r.num(1, math.MaxUint64)}
	return api.Tag{Id: id, Try: r.small(api.MaxTries - 1)}
}

// records reads the records. Behind an error the text is empty, which is no store's.
func (r *reader) records(regions int) *store.Store {
	text, _ := r.Text()
	s, err := store.Restore(text, regions)
	if err != api.OK {
		r.wrong = true
	}
	return s
}

// small reads a number from 0 to one that an int can hold.
func (r *reader) small(most int) int {
	return int(r.num(0, uint64(most)))
}

// num reads a number that is from least to most.
func (r *reader) num(least, most uint64) uint64 {
	n, err := r.Num()
	if err != api.OK || n < least || n > most {
		r.wrong = true
	}
	return n
}
