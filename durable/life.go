package durable

import (
	"cmp"
	"math"

	"argosy/api"
	"argosy/code"
	"argosy/disk"
	"argosy/snap"
)

// lifeFile is the checkpoint of a disk's last life.
const lifeFile = "life"

// How it tells whether the node is a voter.
const (
	noVoter = 0
	isVoter = 1
)

// life is one of a disk.
type life struct {
	number uint64
	voter  bool
}

// begin begins a disk's life behind its last one, and behind clock.
func begin(d *disk.Disk, clock uint64) (life, api.Errno) {
	l, err := loadLife(d)
	if err != api.OK {
		return life{}, err
	}
	elder := max(l.number, clock)
	if elder == math.MaxUint64 {
		return life{}, api.ErrOver
	}
	l.number = elder + 1
	return l, l.save(d)
}

// loadLife gives a disk's last life.
func loadLife(d *disk.Disk) (life, api.Errno) {
	body, err := snap.Load(d, lifeFile)
	if err == api.ErrNoFile {
		// A wiped disk may have forgotten votes, so that its node must not vote once more.
		return life{}, api.OK
	}
	if err != api.OK {
		return life{}, err
	}
	return readLife(body)
}

func readLife(body []byte) (life, api.Errno) {
	e := code.NewEye(body)
	number, noNumber := e.Num()
	voter, noByte := e.Byte()
	if cmp.Or(noNumber, noByte, e.End()) != api.OK || voter > isVoter {
		return life{}, api.ErrTorn
	}
	return life{number: number, voter: voter == isVoter}, api.OK
}

// save lets a life be the disk's last one.
func (l life) save(d *disk.Disk) api.Errno {
	p := &code.Pen{}
	p.Num(l.number)
	p.Byte(l.voterByte())
	return snap.Save(d, lifeFile, p.Data())
}

func (l life) voterByte() byte {
	if l.voter {
		return isVoter
	}
	return noVoter
}
