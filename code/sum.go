package code

// A table of whole bytes would be too long for one that is written out, so that each byte is taken in two halves.
const (
	halfBits = 4
	lowHalf  = 1<<halfBits - 1
)

// rests has of each half byte the rest that it leaves, with the bits in the sum's order.
var rests = [16]uint32{
	0x00000000, 0x105ec76f, 0x20bd8ede, 0x30e349b1,
	0x417b1dbc, 0x5125dad3, 0x61c69362, 0x7198540d,
	0x82f63b78, 0x92a8fc17, 0xa24bb5a6, 0xb21572c9,
	0xc38d26c4, 0xd3d3e1ab, 0xe330a81a, 0xf36e6f75,
}

// Sum gives the check sum of bytes.
func Sum(b []byte) uint32 {
	sum := ^uint32(0)
	for _, x := range b {
		sum ^= uint32(x)
		sum = sum>>halfBits ^ rests[sum&lowHalf]
		sum = sum>>halfBits ^ rests[sum&lowHalf]
	}
	return ^sum
}
