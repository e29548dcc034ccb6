package snap

import (
	"bytes"
	"slices"

	"argosy/api"
	"argosy/code"
)

// partBytes is how many bytes of a body each frame has, but perhaps the last one.
const partBytes = 1024

// Pack puts a body into frames.
func Pack(body []byte) []byte {
	p := &code.Pen{}
	p.Num(uint64(len(body)))
	data := framed(p.Data())
	for part := range slices.Chunk(body, partBytes) {
		data = append(data, framed(part)...)
	}
	return data
}

// Unpack gives the body of frames.
func Unpack(data []byte) ([]byte, api.Errno) {
	var body []byte
	for at := 0; at < len(data); {
		part, size, err := code.Unframe(data[at:])
		if err != api.OK {
			return nil, api.ErrTorn
		}
		// The first frame has no part of the body, but its size.
		if at > 0 {
			body = append(body, part...)
		}
		at += size
	}
	// A body has one form alone: that tells whether the size and the parts are right, too.
	if !bytes.Equal(Pack(body), data) {
		return nil, api.ErrTorn
	}
	return body, api.OK
}

// framed gives the frame of bytes that are never too many for one.
func framed(part []byte) []byte {
	frame, _ := code.Frame(part)
	return frame
}
