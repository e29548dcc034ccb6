package wire

import (
	"bytes"

	"argosy/api"
	"argosy/code"
)

// Write puts a message into bytes.
func Write(m api.Message) ([]byte, api.Errno) {
	if err := Check(m); err != api.OK {
		return nil, err
	}
	p := &code.Pen{}
	for _, n := range [...]int{m.Kind, m.From, m.To, m.Group, m.Slot} {
		p.Num(uint64(n))
	}
	p.Num(m.Ballot)
	p.Text([]byte(m.Value))
	p.Num(uint64(len(m.Votes)))
	for _, v := range m.Votes {
		p.Num(uint64(v.Slot))
		p.Num(v.Ballot)
		p.Text([]byte(v.Value))
	}
	p.Num(uint64(code.Sum(p.Data())))
	return p.Data(), api.OK
}

// Read gives the message of bytes.
func Read(b []byte) (api.Message, api.Errno) {
	r := reader{Eye: code.NewEye(b)}
	m := r.message()
	if again, err := Write(m); err != api.OK || !bytes.Equal(again, b) {
		return api.Message{}, api.ErrForm
	}
	return m, api.OK
}

// reader reads what Write gives, up to the sum. It looks for no faults: where bytes are others than Write's, what was read of them isn't written as they are.
type reader struct {
	*code.Eye
}

func (r reader) message() api.Message {
	m := api.Message{Kind: r.small(), From: r.small(), To: r.small(), Group: r.small(), Slot: r.small()}
	m.Ballot = r.num()
	m.Value = r.text()
	// More votes than there are places need not be read, as they are refused.
	for range min(r.num(), api.MaxLog) {
		m.Votes = append(m.Votes, api.Vote[string]{Slot: r.small(), Ballot: r.num(), Value: r.text()})
	}
	return m
}

// small reads a number that fits an int, if it is right.
func (r reader) small() int {
	return int(r.num())
}

func (r reader) num() uint64 {
	n, _ := r.Num()
	return n
}

func (r reader) text() string {
	text, _ := r.Text()
	return string(text)
}
