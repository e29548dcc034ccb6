package durable

import (
	"cmp"

	"argosy/accept"
	"argosy/api"
	"argosy/code"
	"argosy/disk"
	"argosy/wal"
)

// A group's log has this mark and the group's digit as its name, and parts of this size.
const (
	logMark = "g"
	logSize = 40960
)

// The kinds of records.
const (
	aPromise = 1
	aVote    = 2
)

// group is one in which the node has a vote.
type group struct {
	log   *wal.Log
	voter *accept.Voter[string] // behind all records of the log
}

// openGroup opens a group's log, and lets a voter do what it tells.
func openGroup(d *disk.Disk, number int) (*group, api.Errno) {
	log, err := wal.Open(d, logMark+string('0'+rune(number)), logSize)
	if err != api.OK {
		return nil, err
	}
	g := &group{log: log, voter: accept.New[string]()}
	for _, record := range log.Records() {
		if !g.redo(record) {
			return nil, api.ErrForm
		}
	}
	return g, api.OK
}

// mayTake tells whether the voter would take a vote.
func (g *group) mayTake(v api.Vote[string]) bool {
	return v.Ballot >= g.voter.Promised() && v.Slot >= 0 && v.Slot < api.MaxLog
}

// write lets a record last. The voter may do what it tells only behind that.
func (g *group) write(record []byte) api.Errno {
	if err := g.log.Append(record); err != api.OK {
		return err
	}
	return g.log.Sync()
}

// redo lets the voter do what a record tells; false, if it isn't a record, or the voter doesn't.
func (g *group) redo(record []byte) bool {
	e := code.NewEye(record)
	// Of no bytes this is 0, which is no kind.
	kind, _ := e.Byte()
	switch kind {
	case aPromise:
		ballot, err := readPromise(e)
		return err == api.OK && g.promise(ballot)
	case aVote:
		v, err := readVote(e)
		return err == api.OK && g.voter.Accept(v)
	}
	return false
}

// promise lets the voter promise a ballot, of which nobody asks for votes.
func (g *group) promise(ballot uint64) bool {
	_, ok := g.voter.Promise(ballot, api.MaxLog)
	return ok
}

func promiseRecord(ballot uint64) []byte {
	p := &code.Pen{}
	p.Byte(aPromise)
	p.Num(ballot)
	return p.Data()
}

func voteRecord(v api.Vote[string]) []byte {
	p := &code.Pen{}
	p.Byte(aVote)
	p.Num(uint64(v.Slot))
	p.Num(v.Ballot)
	p.Text([]byte(v.Value))
	return p.Data()
}

// readPromise reads the rest of a promise's record.
func readPromise(e *code.Eye) (uint64, api.Errno) {
	ballot, err := e.Num()
	return ballot, cmp.Or(err, e.End())
}

// readVote reads the rest of a vote's record.
func readVote(e *code.Eye) (api.Vote[string], api.Errno) {
	slot, noSlot := e.Num()
	ballot, noBallot := e.Num()
	value, noValue := e.Text()
	// A number that no int holds must not become a place: the first one that is none stands for it.
	v := api.Vote[string]{Slot: int(min(slot, api.MaxLog)), Ballot: ballot, Value: string(value)}
	return v, cmp.Or(noSlot, noBallot, noValue, e.End())
}
