// Package code is layer 1: see shared/doc/01-code.md.
package code

import (
	"bytes"
	"slices"

	"argosy/api"
)

// A number of 64 bits has ten groups at most, and a single bit is left for the last of these.
const (
	groupBits  = 7
	goesOn     = 1 << groupBits
	tenthGroup = 9
	tenthMost  = 1
)

// A frame's head: the size of its body in two bytes, and the sum in four.
const (
	sizeBytes = 2
	headBytes = sizeBytes + 4
)

// Pen writes numbers and texts.
type Pen struct {
	data []byte
}

// Num writes a number.
func (p *Pen) Num(n uint64) {
	for n >= goesOn {
		p.data = append(p.data, byte(n)|goesOn)
		n >>= groupBits
	}
	p.data = append(p.data, byte(n))
}

// Text writes a text with its length.
func (p *Pen) Text(b []byte) {
	p.Num(uint64(len(b)))
	p.data = append(p.data, b...)
}

// Byte writes a byte.
func (p *Pen) Byte(b byte) {
	p.data = append(p.data, b)
}

// Data gives what was written.
func (p *Pen) Data() []byte {
	return slices.Clone(p.data)
}

// Eye reads numbers and texts.
type Eye struct {
	rest []byte
}

// NewEye gives an Eye at the beginning of bytes.
func NewEye(data []byte) *Eye {
	return &Eye{rest: slices.Clone(data)}
}

// Num reads a number.
func (e *Eye) Num() (uint64, api.Errno) {
	n, size, err := number(e.rest)
	e.rest = e.rest[size:]
	return n, err
}

// Text reads a text with its length.
func (e *Eye) Text() ([]byte, api.Errno) {
	n, size, err := number(e.rest)
	if err != api.OK {
		return nil, err
	}
	rest := e.rest[size:]
	if n > uint64(len(rest)) {
		return nil, api.ErrShort
	}
	e.rest = rest[n:]
	return slices.Clone(rest[:n]), api.OK
}

// Byte reads a byte.
func (e *Eye) Byte() (byte, api.Errno) {
	if len(e.rest) == 0 {
		return 0, api.ErrShort
	}
	b := e.rest[0]
	e.rest = e.rest[1:]
	return b, api.OK
}

// End tells whether all was read.
func (e *Eye) End() api.Errno {
	if len(e.rest) > 0 {
		return api.ErrTail
	}
	return api.OK
}

// number gives the number with which bytes begin, and how many bytes it takes there.
func number(data []byte) (uint64, int, api.Errno) {
	n := uint64(0)
	for i, b := range data {
		if i == tenthGroup && b > tenthMost {
			return 0, 0, api.ErrForm
		}
		n |= uint64(b%goesOn) << (groupBits * i)
		if b >= goesOn {
			continue
		}
		// A last group of noughts would let one number have two forms.
		if b == 0 && i > 0 {
			return 0, 0, api.ErrForm
		}
		return n, i + 1, api.OK
	}
	return 0, 0, api.ErrShort
}

// Frame puts bytes into a frame.
func Frame(body []byte) ([]byte, api.Errno) {
	if len(body) > api.MaxBody {
		return nil, api.ErrArg
	}
	return framed(body), api.OK
}

// Unframe gives the body of the frame with which bytes begin, and how many bytes that has.
func Unframe(data []byte) ([]byte, int, api.Errno) {
	if len(data) < headBytes {
		return nil, 0, api.ErrShort
	}
	size := int(data[0])<<8 | int(data[1])
	if size > api.MaxBody {
		return nil, 0, api.ErrForm
	}
	whole := headBytes + size
	if len(data) < whole {
		return nil, 0, api.ErrShort
	}
	body := slices.Clone(data[headBytes:whole])
	// Size and body are alike in both, so that only the sums can differ.
	if !bytes.Equal(framed(body), data[:whole]) {
		return nil, 0, api.ErrSum
	}
	return body, whole, api.OK
}

// framed gives the frame of a body that isn't too long.
func framed(body []byte) []byte {
	size := []byte{byte(len(body) >> 8), byte(len(body))}
	sum := Sum(slices.Concat(size, body))
	sums := []byte{byte(sum), byte(sum >> 8), byte(sum >> 16), byte(sum >> 24)}
	return slices.Concat(size, sums, body)
}
