package code

import (
	"bytes"
	"math"
	"slices"
	"testing"

	"argosy/api"
)

// steps is a row of numbers that looks thrown, and is the same in each run.
func steps(seed uint64) func() uint64 {
	return func() uint64 {
		seed = seed*6364136223846793005 + 1442695040888963407
		return seed >> 33
	}
}

func thrown(next func() uint64, size int) []byte {
	b := make([]byte, size)
	for i := range b {
		b[i] = byte(next())
	}
	return b
}

// roomy gives bytes with spare room behind them, which must stay as it is.
func roomy(b []byte) []byte {
	r := make([]byte, len(b)+8)
	for i := range r {
		r[i] = 0xee
	}
	copy(r, b)
	return r[:len(b)]
}

func spareIsLeft(b []byte) bool {
	for _, x := range b[len(b):cap(b)] {
		if x != 0xee {
			return false
		}
	}
	return true
}

// P1.1: numbers by their groups.
func TestPenNum(t *testing.T) {
	for _, c := range []struct {
		n    uint64
		want []byte
	}{
		{0, []byte{0}},
		{1, []byte{1}},
		{127, []byte{127}},
		{128, []byte{128, 1}},
		{300, []byte{172, 2}},
		{16383, []byte{255, 127}},
		{16384, []byte{128, 128, 1}},
		{1<<63 - 1, []byte{255, 255, 255, 255, 255, 255, 255, 255, 127}},
		{1 << 63, []byte{128, 128, 128, 128, 128, 128, 128, 128, 128, 1}},
		{math.MaxUint64, []byte{255, 255, 255, 255, 255, 255, 255, 255, 255, 1}},
	} {
		p := &Pen{}
		p.Num(c.n)
		if got := p.Data(); !bytes.Equal(got, c.want) {
			t.Errorf("Num(%d): %v, want %v", c.n, got, c.want)
		}
	}
}

// P1.1: what is written stands one behind the other.
func TestPenData(t *testing.T) {
	p := &Pen{}
	if d := p.Data(); len(d) != 0 {
		t.Errorf("a new pen: %v", d)
	}
	p.Text(nil)
	p.Text([]byte{})
	p.Text([]byte("ab"))
	p.Byte(0)
	p.Byte(255)
	p.Num(5)
	want := []byte{0, 0, 2, 'a', 'b', 0, 255, 5}
	if d := p.Data(); !bytes.Equal(d, want) {
		t.Errorf("%v, want %v", d, want)
	}
	long := &Pen{}
	long.Text(make([]byte, 200))
	if d := long.Data(); len(d) != 202 || d[0] != 200 || d[1] != 1 {
		t.Errorf("a long text: %d bytes, %v", len(d), d[:2])
	}
}

// P1.2: errors of Num, behind which the eye stands where it stood.
func TestEyeNum(t *testing.T) {
	nines := bytes.Repeat([]byte{255}, 9)
	for _, c := range []struct {
		in   []byte
		n    uint64
		left int
		err  api.Errno
	}{
		{nil, 0, 0, api.ErrShort},
		{[]byte{128}, 0, 1, api.ErrShort},
		{[]byte{255, 255}, 0, 2, api.ErrShort},
		{nines, 0, 9, api.ErrShort},
		{[]byte{128, 0}, 0, 2, api.ErrForm},
		{[]byte{255, 128, 0}, 0, 3, api.ErrForm},
		{[]byte{128, 0, 7}, 0, 3, api.ErrForm},
		{append(slices.Clone(nines), 0), 0, 10, api.ErrForm},
		{append(slices.Clone(nines), 2), 0, 10, api.ErrForm},
		{append(slices.Clone(nines), 127), 0, 10, api.ErrForm},
		{append(slices.Clone(nines), 128), 0, 10, api.ErrForm},
		{append(slices.Clone(nines), 129, 0), 0, 11, api.ErrForm},
		{append(slices.Clone(nines), 1), math.MaxUint64, 0, api.OK},
		{[]byte{0}, 0, 0, api.OK},
		{[]byte{0, 0}, 0, 1, api.OK},
		{[]byte{172, 2, 9}, 300, 1, api.OK},
	} {
		e := NewEye(c.in)
		n, err := e.Num()
		if n != c.n || err != c.err {
			t.Errorf("Num of %v: %d, %v, want %d, %v", c.in, n, err, c.n, c.err)
		}
		if got := bytesLeft(e); got != c.left {
			t.Errorf("Num of %v: %d bytes left, want %d", c.in, got, c.left)
		}
	}
}

func bytesLeft(e *Eye) int {
	n := 0
	for {
		if _, err := e.Byte(); err != api.OK {
			return n
		}
		n++
	}
}

// P1.2: Text, with the errors of its number first.
func TestEyeText(t *testing.T) {
	for _, c := range []struct {
		in   []byte
		text string
		left int
		err  api.Errno
	}{
		{nil, "", 0, api.ErrShort},
		{[]byte{0}, "", 0, api.OK},
		{[]byte{0, 5}, "", 1, api.OK},
		{[]byte{2, 'a', 'b'}, "ab", 0, api.OK},
		{[]byte{2, 'a', 'b', 'c'}, "ab", 1, api.OK},
		{[]byte{2, 'a'}, "", 2, api.ErrShort},
		{[]byte{1}, "", 1, api.ErrShort},
		{[]byte{130, 0, 'a', 'b'}, "", 4, api.ErrForm},
		{[]byte{130}, "", 1, api.ErrShort},
		{[]byte{255, 255, 255, 255, 255, 255, 255, 255, 255, 1, 'a'}, "", 11, api.ErrShort},
		{[]byte{255, 255, 255, 255, 255, 255, 255, 255, 255, 3, 'a'}, "", 11, api.ErrForm},
	} {
		e := NewEye(c.in)
		text, err := e.Text()
		if string(text) != c.text || err != c.err {
			t.Errorf("Text of %v: %q, %v, want %q, %v", c.in, text, err, c.text, c.err)
		}
		if got := bytesLeft(e); got != c.left {
			t.Errorf("Text of %v: %d bytes left, want %d", c.in, got, c.left)
		}
	}
}

// P1.2: Byte and End.
func TestEyeByteAndEnd(t *testing.T) {
	e := NewEye([]byte{7, 0})
	if err := e.End(); err != api.ErrTail {
		t.Errorf("End at the beginning: %v", err)
	}
	for _, want := range []byte{7, 0} {
		if b, err := e.Byte(); b != want || err != api.OK {
			t.Errorf("Byte: %d, %v, want %d", b, err, want)
		}
	}
	for range 2 {
		if b, err := e.Byte(); b != 0 || err != api.ErrShort {
			t.Errorf("Byte at the end: %d, %v", b, err)
		}
		if err := e.End(); err != api.OK {
			t.Errorf("End at the end: %v", err)
		}
	}
	if err := NewEye(nil).End(); err != api.OK {
		t.Errorf("End of nothing: %v", err)
	}
}

// P1.1, P1.2: what a pen has written, an eye reads.
func TestPenThenEye(t *testing.T) {
	next := steps(1)
	p := &Pen{}
	var numbers []uint64
	var texts [][]byte
	for i := range 300 {
		n := (next()<<33 | next()) >> (i % 64)
		text := thrown(next, i)
		numbers, texts = append(numbers, n), append(texts, text)
		p.Num(n)
		p.Text(text)
	}
	e := NewEye(p.Data())
	for i, want := range numbers {
		if n, err := e.Num(); n != want || err != api.OK {
			t.Fatalf("number %d: %d, %v, want %d", i, n, err, want)
		}
		if text, err := e.Text(); !bytes.Equal(text, texts[i]) || err != api.OK {
			t.Fatalf("text %d: %v, %v", i, text, err)
		}
	}
	if err := e.End(); err != api.OK {
		t.Error(err)
	}
}

// P1, P1.2: whatever the bytes are, calls end, and a number that is read is written so.
func TestEyeOfAnyBytes(t *testing.T) {
	next := steps(2)
	for range 5000 {
		b := thrown(next, int(next()%24))
		for i := range b {
			if next()%3 > 0 {
				b[i] |= 128
			}
		}
		n, err := NewEye(b).Num()
		p := &Pen{}
		p.Num(n)
		if err == api.OK && !bytes.HasPrefix(b, p.Data()) {
			t.Fatalf("%v: %d, which is written %v", b, n, p.Data())
		}
		if err != api.OK && n != 0 {
			t.Fatalf("%v: %d beside %v", b, n, err)
		}
		if text, err := NewEye(b).Text(); err != api.OK && len(text) > 0 {
			t.Fatalf("%v: %v beside %v", b, text, err)
		}
		if body, size, err := Unframe(b); err != api.OK && (len(body) > 0 || size != 0) {
			t.Fatalf("%v: %v, %d beside %v", b, body, size, err)
		}
	}
}

// P1.5: eyes and pens share no memory with what they were given, or gave.
func TestPenAndEyeMemory(t *testing.T) {
	given := roomy([]byte("given"))
	p := &Pen{}
	p.Text(given)
	first := p.Data()
	clear(given)
	second := p.Data()
	clear(first[:cap(first)])
	p.Byte('!')
	if string(second) != "\x05given" || string(p.Data()) != "\x05given!" || !spareIsLeft(given) {
		t.Errorf("%q, %q", second, p.Data())
	}
	read := roomy([]byte("\x02hi\x02ho"))
	e := NewEye(read)
	clear(read)
	hi, _ := e.Text()
	clear(hi[:cap(hi)])
	if ho, err := e.Text(); string(ho) != "ho" || err != api.OK || !spareIsLeft(read) {
		t.Errorf("%q, %v", ho, err)
	}
}

// P2: two runs of the same calls give the same answers.
func TestSameAnswers(t *testing.T) {
	run := func() []byte {
		next := steps(3)
		p := &Pen{}
		for range 200 {
			b := thrown(next, int(next()%40))
			f, _ := Frame(b)
			p.Text(f)
			p.Num(uint64(Sum(f)))
			n, err := NewEye(b).Num()
			p.Num(n)
			p.Num(uint64(err))
		}
		return p.Data()
	}
	if !bytes.Equal(run(), run()) {
		t.Error("two runs differ")
	}
}
