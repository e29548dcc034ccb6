package order

import (
	"bytes"
	"math"
	"slices"
	"strconv"
	"testing"

	"argosy/api"
)

// reads fails, unless Read gives an order of bytes.
func reads(t *testing.T, name string, b []byte, want api.Order) {
	t.Helper()
	if got, err := Read(b); !same(got, want) || err != api.OK {
		t.Errorf("Read of %s: %v, %v, want %v", name, got, err, want)
	}
}

// refuses fails, unless Read answers ErrForm, and nothing else.
func refuses(t *testing.T, name string, b []byte) {
	t.Helper()
	if got, err := Read(b); !same(got, api.Order{}) || err != api.ErrForm {
		t.Errorf("Read of %s: %v, %v", name, got, err)
	}
}

// P9.2: the bytes, of whole written out.
func TestWrite(t *testing.T) {
	if b, err := Write(whole()); !bytes.Equal(b, wholeBytes()) || err != api.OK {
		t.Errorf("%q, %v, want %q", b, err, wholeBytes())
	}
	if b, err := Write(moving()); !bytes.Equal(b, []byte("\x08\x01\x01\x02\x02\x02\x00\x01\x01k\x00\x01\x03")) || err != api.OK {
		t.Errorf("of a move: %q, %v", b, err)
	}
	if b, err := Write(bare()); !bytes.Equal(b, []byte("\x00\x01\x01\x00\x01\x00\x00\x00\x00")) || err != api.OK {
		t.Errorf("of nothing: %q, %v", b, err)
	}
	for _, o := range rightOrders() {
		b, err := Write(o)
		if !bytes.Equal(b, wrote(o)) || err != api.OK {
			t.Errorf("%v: %q, %v", o, b, err)
		}
		reads(t, "what was written", b, o)
	}
}

// P9.2: what is right is written and read again, what isn't is neither; right for 3 regions is enough.
func TestWriteChanges(t *testing.T) {
	for _, c := range changes() {
		o := whole()
		c.do(&o)
		b, err := Write(o)
		if c.least > 0 {
			if !bytes.Equal(b, wrote(o)) || err != api.OK {
				t.Errorf("%s: %q, %v", c.name, b, err)
			}
			reads(t, c.name, b, o)
			continue
		}
		if len(b) != 0 || err != api.ErrArg {
			t.Errorf("%s: %q, %v", c.name, b, err)
		}
		// Marks that aren't their keys' have bytes of an order whose marks are.
		if r, err := Read(wrote(o)); err == api.OK && (same(r, o) || !bytes.Equal(wrote(r), wrote(o))) {
			t.Errorf("%s: Read gives %v", c.name, r)
		}
	}
}

// P9.2: an N's number.
func TestNumbers(t *testing.T) {
	for n, z := range map[int64]uint64{
		0: 0, -1: 1, 1: 2, -2: 3, 2: 4, 63: 126, -64: 127, 64: 128, -65: 129,
		math.MaxInt64: math.MaxUint64 - 1, math.MinInt64: math.MaxUint64, math.MaxInt64 - 1: math.MaxUint64 - 3, math.MinInt64 + 1: math.MaxUint64 - 2,
		1 << 31: 1 << 32, -1 << 31: 1<<32 - 1, 1 << 62: 1 << 63, -1 << 62: 1<<63 - 1,
	} {
		o := bare()
		o.Txn.Writes = []string{"k"}
		o.Txn.Ops = []api.Op{{Kind: api.OpAdd, Key: "k", N: n}}
		o.Marks = []api.Mark{{Key: "k"}}
		w := &writer{}
		w.nums(0, 1, 1, 0, 1, 0, 0, 1)
		w.Text([]byte("k"))
		w.nums(1, api.OpAdd)
		w.Text([]byte("k"))
		w.Text(nil)
		w.nums(z, 0, 0)
		if b, err := Write(o); !bytes.Equal(b, w.Data()) || err != api.OK {
			t.Errorf("%d: %v, %v", n, b, err)
		}
		reads(t, "N "+strconv.FormatInt(n, 10), w.Data(), o)
	}
}

// bytesOf gives the bytes of whole, when something was done to it.
func bytesOf(do func(*api.Order)) []byte {
	o := whole()
	do(&o)
	return wrote(o)
}

// P9.2: bytes of what isn't right.
func TestReadErrors(t *testing.T) {
	b := wholeBytes()
	reads(t, "the whole", b, whole())
	for name, data := range map[string][]byte{
		"nil":                      nil,
		"nothing":                  {},
		"a tail":                   append(slices.Clone(b), 0),
		"two orders":               append(slices.Clone(b), b...),
		"Node 9":                   bytesOf(func(o *api.Order) { o.Tag.Id.Node = 9 }),
		"Node of 64 bits":          bytesOf(func(o *api.Order) { o.Tag.Id.Node = -1 }),
		"Node beyond 32 bits":      bytesOf(func(o *api.Order) { o.Tag.Id.Node = 1<<32 + 4 }),
		"Epoch 0":                  bytesOf(func(o *api.Order) { o.Tag.Id.Epoch = 0 }),
		"Seq 0":                    bytesOf(func(o *api.Order) { o.Tag.Id.Seq = 0 }),
		"Try 3":                    bytesOf(func(o *api.Order) { o.Tag.Try = 3 }),
		"Kind 0":                   bytesOf(func(o *api.Order) { o.Txn.Kind = 0 }),
		"Kind 3":                   bytesOf(func(o *api.Order) { o.Txn.Kind = 3 }),
		"a move of too much":       bytesOf(func(o *api.Order) { o.Txn.Kind = 2 }),
		"a run To 1":               bytesOf(func(o *api.Order) { o.Txn.To = 1 }),
		"Reads that fall":          bytesOf(func(o *api.Order) { slices.Reverse(o.Txn.Reads) }),
		"a key twice":              bytesOf(func(o *api.Order) { o.Txn.Reads[1] = "b" }),
		"a key in both":            bytesOf(func(o *api.Order) { o.Txn.Writes[1] = "b" }),
		"an empty key":             bytesOf(func(o *api.Order) { o.Txn.Reads[0] = "" }),
		"a long key":               bytesOf(func(o *api.Order) { o.Txn.Reads[1] = "d2345678901234567" }),
		"a long value":             bytesOf(func(o *api.Order) { o.Txn.Ops[0].Value = make([]byte, 33) }),
		"an Op of another key":     bytesOf(func(o *api.Order) { o.Txn.Ops[2].Key = "x" }),
		"an Op of kind 8":          bytesOf(func(o *api.Order) { o.Txn.Ops[2].Kind = 8 }),
		"an Op of a great kind":    bytesOf(func(o *api.Order) { o.Txn.Ops[2].Kind = 1<<32 + 1 }),
		"an OpRead with N":         bytesOf(func(o *api.Order) { o.Txn.Ops[2].N = 1 }),
		"17 Ops":                   bytesOf(func(o *api.Order) { o.Txn.Ops = slices.Repeat(o.Txn.Ops[2:3], 17) }),
		"a Home of 3":              bytesOf(func(o *api.Order) { o.Marks[0].Home = 3 }),
		"a Home of 64 bits":        bytesOf(func(o *api.Order) { o.Marks[0].Home = -1 }),
		"a Home beyond 32 bits":    bytesOf(func(o *api.Order) { o.Marks[0].Home = 1 << 32 }),
		"a mark less":              bytesOf(func(o *api.Order) { o.Marks = o.Marks[:3] }),
		"a mark more":              bytesOf(func(o *api.Order) { o.Marks = append(o.Marks, o.Marks[0]) }),
		"five and four keys":       wrote(nineKeys(5)),
		"nine Reads":               wrote(nineKeys(9)),
		"nine Writes":              wrote(nineKeys(0)),
		"a move of none":           []byte("\x08\x01\x01\x02\x02\x02\x00\x00\x00"),
		"a move to 3":              []byte("\x08\x01\x01\x02\x02\x03\x00\x01\x01k\x00\x01\x03"),
		"very many Reads":          []byte("\x00\x01\x01\x00\x01\x00\xff\xff\xff\xff\xff\xff\xff\xff\xff\x01\x00\x00"),
		"very many Writes":         []byte("\x00\x01\x01\x00\x01\x00\x00\xff\xff\xff\xff\xff\xff\xff\xff\xff\x01\x00"),
		"very many Ops":            []byte("\x00\x01\x01\x00\x01\x00\x00\x00\xff\xff\xff\xff\xff\xff\xff\xff\xff\x01"),
		"a very long key":          []byte("\x00\x01\x01\x00\x01\x00\x01\xff\xff\xff\xff\xff\xff\xff\xff\xff\x01k\x00\x00\x00\x00"),
		"a Node of two forms":      append([]byte{132, 0}, b[1:]...),
		"an Epoch of two forms":    append([]byte{4, 172, 130, 0}, b[3:]...),
		"a Seq beyond 64 bits":     append([]byte{4, 172, 2, 255, 255, 255, 255, 255, 255, 255, 255, 255, 2}, b[4:]...),
		"no number of Reads":       slices.Delete(slices.Clone(b), 7, 8),
		"a Count of two forms":     append(slices.Clone(b[:len(b)-2]), 128, 129, 0),
		"another number of Ops":    bytes.Replace(b, []byte("\x05\x02"), []byte("\x04\x02"), 1),
		"another number of Reads":  bytes.Replace(b, []byte("\x02\x01b"), []byte("\x01\x01b"), 1),
		"another number of Writes": bytes.Replace(b, []byte("\x02\x01a"), []byte("\x03\x01a"), 1),
	} {
		refuses(t, name, data)
	}
	for n := range b {
		refuses(t, "the first "+strconv.Itoa(n)+" bytes", b[:n])
	}
}

// nineKeys gives an order that would be right, if there might be nine keys.
func nineKeys(reads int) api.Order {
	o := homed(0, 1, 2, 0, 1, 2, 0, 1, 2)
	o.Txn.Reads, o.Txn.Writes = o.Txn.Reads[:reads], o.Txn.Reads[reads:]
	return o
}

// damaged gives bytes that are near to some, by a few steps.
func damaged(b []byte, next func(below int) int) []byte {
	b = slices.Clone(b)
	for range 1 + next(3) {
		at := next(len(b))
		switch next(4) {
		case 0:
			b[at] = byte(next(256))
		case 1:
			b[at] ^= byte(1 << next(8))
		case 2:
			b = slices.Delete(b, at, at+1)
		case 3:
			b = slices.Insert(b, at, byte(next(4)))
		}
	}
	return b
}

// P9.2, P9.3: bytes that are taken are those that are written of what was read, and that is right.
func TestReadOfAnyBytes(t *testing.T) {
	next := steps(1)
	orders, items := 0, 0
	for i := range 60000 {
		o := rightOrders()[i%7]
		data := damaged(wrote(o), next)
		if r, err := Read(data); err == api.OK {
			orders++
			if Check(r, 3) != api.OK || !bytes.Equal(wrote(r), data) {
				t.Fatalf("%q is taken as %v", data, r)
			}
		} else {
			refuses(t, "damaged bytes", data)
		}
		data = damaged(append([]byte{2, byte(i % 64)}, wrote(o)...), next)
		if r, err := ReadItem(data); err == api.OK {
			items++
			if !bytes.Equal(append([]byte{byte(r.Kind), byte(r.Index)}, wrote(r.Order)...), data) {
				t.Fatalf("%q is taken as %v", data, r)
			}
		} else {
			refusesItem(t, "damaged bytes", data)
		}
	}
	if orders == 0 || items == 0 {
		t.Errorf("%d orders, %d items were taken", orders, items)
	}
}

// P9.4: bytes that are given, and what is read of them.
func TestReadMemory(t *testing.T) {
	given := append(wholeBytes(), 9, 9)[:len(wholeBytes())]
	first, _ := Read(given)
	second, _ := Read(given)
	spoil(first)
	if !same(second, whole()) || !bytes.Equal(given, wholeBytes()) || !bytes.Equal(given[len(given):][:2], []byte{9, 9}) {
		t.Errorf("Read shares memory: %v, %q", second, given)
	}
	clear(given)
	if !same(second, whole()) {
		t.Errorf("what Read gave is kept elsewhere: %v", second)
	}
	o := whole()
	one, _ := Write(o)
	two, _ := Write(o)
	clear(one[:cap(one)])
	spoil(o)
	if !bytes.Equal(two, wholeBytes()) {
		t.Errorf("Write shares memory: %q", two)
	}
}
