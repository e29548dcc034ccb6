package order

import (
	"bytes"
	"math"
	"slices"
	"strconv"
	"testing"

	"argosy/api"
)

// refusesItem fails, unless ReadItem answers ErrForm, and nothing else.
func refusesItem(t *testing.T, name string, b []byte) {
	t.Helper()
	if got, err := ReadItem(b); !sameItem(got, api.Item{}) || err != api.ErrForm {
		t.Errorf("ReadItem of %s: %v, %v", name, got, err)
	}
}

// P9.3: kinds and indexes, those that are right and others.
func TestItem(t *testing.T) {
	for _, o := range rightOrders() {
		for _, kind := range []int{math.MinInt, -1, 0, api.ItRun, api.ItPiece, 3, math.MaxInt} {
			for _, index := range []int{math.MinInt, -1, 0, 1, 2, 62, 63, 64, 65, math.MaxInt} {
				i := itemOf(kind, index, o)
				b, err := WriteItem(i)
				if kind == api.ItRun && index == 0 || kind == api.ItPiece && index >= 0 && index <= 63 {
					want := append([]byte{byte(kind), byte(index)}, wrote(o)...)
					if !bytes.Equal(b, want) || err != api.OK {
						t.Errorf("%v: %q, %v", i, b, err)
					}
					if got, err := ReadItem(b); !sameItem(got, i) || err != api.OK {
						t.Errorf("%v: read as %v, %v", i, got, err)
					}
				} else if len(b) != 0 || err != api.ErrArg {
					t.Errorf("%v: %q, %v", i, b, err)
				}
			}
		}
	}
}

// P9.3: the order must be right for 3 regions, of either kind.
func TestItemChanges(t *testing.T) {
	for _, c := range changes() {
		o := whole()
		c.do(&o)
		for _, i := range []api.Item{itemOf(api.ItRun, 0, o), itemOf(api.ItPiece, 5, o)} {
			b, err := WriteItem(i)
			wants(t, c.name, err, errnoOf(c.least > 0))
			if err != api.OK && len(b) != 0 {
				t.Errorf("%s: %q", c.name, b)
			}
		}
	}
}

// P9.3: bytes of no item.
func TestReadItemErrors(t *testing.T) {
	b := wholeBytes()
	piece := append([]byte{2, 63}, b...)
	if got, err := ReadItem(piece); !sameItem(got, itemOf(api.ItPiece, 63, whole())) || err != api.OK {
		t.Errorf("a piece: %v, %v", got, err)
	}
	for name, head := range map[string][]byte{
		"no head":               {},
		"a Kind alone":          {1},
		"Kind 0":                {0, 0},
		"Kind 3":                {3, 0},
		"a run with an Index":   {1, 1},
		"Index 64":              {2, 64},
		"Index 127":             {2, 127},
		"a Kind of two forms":   {129, 0, 0},
		"an Index of two forms": {2, 133, 0},
		"a Kind beyond 32 bits": {129, 128, 128, 128, 16, 0},
		"an Index beyond":       {2, 128, 128, 128, 128, 16},
		"an Index of 64 bits":   {2, 255, 255, 255, 255, 255, 255, 255, 255, 255, 1},
		"an Index beyond that":  {2, 255, 255, 255, 255, 255, 255, 255, 255, 255, 2},
	} {
		refusesItem(t, name, append(head, b...))
	}
	for name, data := range map[string][]byte{
		"nil":                  nil,
		"nothing":              {},
		"no order":             {1, 0},
		"a tail":               append(slices.Clone(piece), 0),
		"an order of Node 9":   append([]byte{1, 0}, bytesOf(func(o *api.Order) { o.Tag.Id.Node = 9 })...),
		"an order of a Home 3": append([]byte{2, 0}, bytesOf(func(o *api.Order) { o.Marks[0].Home = 3 })...),
	} {
		refusesItem(t, name, data)
	}
	for n := range piece {
		refusesItem(t, "the first "+strconv.Itoa(n)+" bytes", piece[:n])
	}
}

// P9.4: of items.
func TestItemMemory(t *testing.T) {
	data := append([]byte{2, 7}, wholeBytes()...)
	given := append(slices.Clone(data), 9, 9)[:len(data)]
	first, _ := ReadItem(given)
	second, _ := ReadItem(given)
	spoil(first.Order)
	if !same(second.Order, whole()) || !bytes.Equal(given, data) || !bytes.Equal(given[len(given):][:2], []byte{9, 9}) {
		t.Errorf("ReadItem shares memory: %v, %q", second, given)
	}
	clear(given)
	if !same(second.Order, whole()) {
		t.Errorf("what ReadItem gave is kept elsewhere: %v", second)
	}
	i := itemOf(api.ItPiece, 7, whole())
	one, _ := WriteItem(i)
	two, _ := WriteItem(i)
	clear(one[:cap(one)])
	spoil(i.Order)
	if !bytes.Equal(two, data) {
		t.Errorf("WriteItem shares memory: %q", two)
	}
}

// P2: two runs of the same calls answer the same.
func TestSameAnswers(t *testing.T) {
	run := func() []byte {
		var all []byte
		next := steps(7)
		for i := range 3000 {
			o := rightOrders()[i%7]
			data := damaged(wrote(o), next)
			r, err := Read(data)
			all = append(all, byte(err), byte(Check(r, 1+i%3)), byte(len(Homes(r))))
			b, err := WriteItem(itemOf(1+i%2, i%80, Copy(r)))
			all = append(append(all, byte(err)), b...)
		}
		return all
	}
	if !bytes.Equal(run(), run()) {
		t.Error("two runs differ")
	}
}
