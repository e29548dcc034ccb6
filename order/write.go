package order

import (
	"argosy/api"
	"argosy/code"
)

// Write puts an order into bytes.
func Write(o api.Order) ([]byte, api.Errno) {
	if err := Check(o, api.MaxRegions); err != api.OK {
		return nil, err
	}
	w := &writer{}
	w.order(o)
	return w.Data(), api.OK
}

// WriteItem puts an item into bytes.
func WriteItem(i api.Item) ([]byte, api.Errno) {
	if !rightItem(i) {
		return nil, api.ErrArg
	}
	w := &writer{}
	w.nums(uint64(i.Kind), uint64(i.Index))
	w.order(i.Order)
	return w.Data(), api.OK
}

// writer writes what is right.
type writer struct {
	code.Pen
}

func (w *writer) order(o api.Order) {
	id := o.Tag.Id
	w.nums(uint64(id.Node), id.Epoch, id.Seq, uint64(o.Tag.Try))
	w.txn(o.Txn)
	// The marks' keys and how many there are: the transaction tells these.
	for _, m := range o.Marks {
		w.nums(uint64(m.Home), m.Count)
	}
}

func (w *writer) txn(t api.Txn) {
	w.nums(uint64(t.Kind), uint64(t.To))
	w.keys(t.Reads)
	w.keys(t.Writes)
	w.nums(uint64(len(t.Ops)))
	for _, op := range t.Ops {
		w.nums(uint64(op.Kind))
		w.Text([]byte(op.Key))
		w.Text(op.Value)
		w.nums(fold(op.N))
	}
}

// keys writes how many keys there are, and they.
func (w *writer) keys(keys []string) {
	w.nums(uint64(len(keys)))
	for _, key := range keys {
		w.Text([]byte(key))
	}
}

// nums writes numbers, one behind the other.
func (w *writer) nums(all ...uint64) {
	for _, n := range all {
		w.Num(n)
	}
}

// fold gives the numbers from 0 on the even ones, and those below 0 the odd ones.
func fold(n int64) uint64 {
	if n < 0 {
		return 2*uint64(-1-n) + 1
	}
	return 2 * uint64(n)
}

// unfold gives the number of which fold gives z.
func unfold(z uint64) int64 {
	half := int64(z / 2)
	if z%2 == 1 {
		return -1 - half
	}
	return half
}
