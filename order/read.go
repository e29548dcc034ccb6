package order

import (
	"bytes"

	"argosy/api"
	"argosy/code"
	"argosy/prog"
)

// Read gives the order of bytes.
func Read(b []byte) (api.Order, api.Errno) {
	r := reader{Eye: code.NewEye(b)}
	o := r.order()
	if again, err := Write(o); err != api.OK || !bytes.Equal(again, b) {
		return api.Order{}, api.ErrForm
	}
	return o, api.OK
}

// ReadItem gives the item of bytes.
func ReadItem(b []byte) (api.Item, api.Errno) {
	r := reader{Eye: code.NewEye(b)}
	i := api.Item{Kind: r.small(), Index: r.small(), Order: r.order()}
	if again, err := WriteItem(i); err != api.OK || !bytes.Equal(again, b) {
		return api.Item{}, api.ErrForm
	}
	return i, api.OK
}

// reader reads what a writer wrote. It looks for no faults: where bytes are others than a writer's, what was read of them isn't written as they are.
type reader struct {
	*code.Eye
}

func (r reader) order() api.Order {
	var o api.Order
	o.Tag.Id = api.Id{Node: r.small(), Epoch: r.num(), Seq: r.num()}
	o.Tag.Try = r.small()
	o.Txn = r.txn()
	for _, key := range prog.Keys(o.Txn) {
		o.Marks = append(o.Marks, api.Mark{Key: key, Home: r.small(), Count: r.num()})
	}
	return o
}

func (r reader) txn() api.Txn {
	t := api.Txn{Kind: r.small(), To: r.small()}
	t.Reads = r.keys()
	t.Writes = r.keys()
	for range r.count(api.MaxOps) {
		t.Ops = append(t.Ops, api.Op{Kind: r.small(), Key: string(r.text()), Value: r.text(), N: unfold(r.num())})
	}
	return t
}

// keys reads how many keys there are, and they.
func (r reader) keys() []string {
	var keys []string
	for range r.count(api.MaxKeys) {
		keys = append(keys, string(r.text()))
	}
	return keys
}

// count reads how many there are; more than there may be need not be read, as they are refused.
func (r reader) count(most uint64) uint64 {
	return min(r.num(), most)
}

// small reads a number that fits an int, if it is right.
func (r reader) small() int {
	return int(r.num())
}

func (r reader) num() uint64 {
	n, _ := r.Num()
	return n
}

func (r reader) text() []byte {
	text, _ := r.Text()
	return text
}
