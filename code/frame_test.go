package code

import (
	"bytes"
	"hash/crc32"
	"slices"
	"testing"

	"argosy/api"
)

// divided works a sum out by the words of the promise: coefficients, and a long division.
func divided(b []byte) uint32 {
	var bits []bool
	for _, x := range b {
		for i := range 8 {
			bits = append(bits, x>>i&1 == 1)
		}
	}
	bits = append(bits, make([]bool, 32)...)
	for i := range 32 {
		bits[i] = !bits[i]
	}
	by := []int{32, 28, 27, 26, 25, 23, 22, 20, 19, 18, 14, 13, 11, 10, 9, 8, 6, 0}
	for i := range len(bits) - 32 {
		if bits[i] {
			for _, power := range by {
				bits[i+32-power] = !bits[i+32-power]
			}
		}
	}
	sum := uint32(0)
	for i, bit := range bits[len(bits)-32:] {
		if !bit {
			sum |= 1 << i
		}
	}
	return sum
}

// P1.3
func TestSum(t *testing.T) {
	for s, want := range map[string]uint32{
		"":                                    0,
		"123456789":                           0xe3069283,
		"\x00":                                0x527d5351,
		string(make([]byte, 32)):              0x8a9136aa,
		string(bytes.Repeat([]byte{255}, 32)): 0x62a8ab43,
	} {
		if got := Sum([]byte(s)); got != want {
			t.Errorf("Sum(%q): %#x, want %#x", s, got, want)
		}
	}
	if got := Sum(nil); got != 0 {
		t.Errorf("Sum(nil): %#x", got)
	}
	next := steps(4)
	table := crc32.MakeTable(crc32.Castagnoli)
	for size := range 300 {
		b := thrown(next, size)
		got := Sum(b)
		if want := divided(b); got != want {
			t.Errorf("Sum(%v): %#x, want %#x", b, got, want)
		}
		if want := crc32.Checksum(b, table); got != want {
			t.Errorf("Sum(%v): %#x, want %#x", b, got, want)
		}
	}
	for x := range 256 {
		if b := []byte{byte(x)}; Sum(b) != divided(b) {
			t.Errorf("Sum(%v): %#x", b, Sum(b))
		}
	}
}

// P1.4: what a frame looks like.
func TestFrame(t *testing.T) {
	next := steps(5)
	for _, size := range []int{0, 1, 2, 255, 256, 257, 4095, 4096} {
		body := thrown(next, size)
		head := []byte{byte(size / 256), byte(size % 256)}
		sum := divided(append(slices.Clone(head), body...))
		want := append(head, byte(sum), byte(sum/256), byte(sum/65536), byte(sum/16777216))
		want = append(want, body...)
		f, err := Frame(body)
		if !bytes.Equal(f, want) || err != api.OK {
			t.Errorf("%d bytes: %v, %v", size, f[:6], err)
		}
		got, n, err := Unframe(append(slices.Clone(f), "more"...))
		if !bytes.Equal(got, body) || n != size+6 || err != api.OK {
			t.Errorf("%d bytes: Unframe: %d bytes, %d, %v", size, len(got), n, err)
		}
	}
	for _, size := range []int{4097, 65536, 1 << 20} {
		if f, err := Frame(make([]byte, size)); len(f) != 0 || err != api.ErrArg {
			t.Errorf("%d bytes: %d, %v", size, len(f), err)
		}
	}
}

// P1.4: the errors of Unframe, in their order.
func TestUnframeErrors(t *testing.T) {
	whole, _ := Frame(make([]byte, 4096))
	small, _ := Frame([]byte("ab"))
	otherSum := slices.Clone(small)
	otherSum[2] ^= 1
	for _, c := range []struct {
		name string
		in   []byte
		want api.Errno
	}{
		{"nothing", nil, api.ErrShort},
		{"five bytes that tell too much", []byte{255, 255, 0, 0, 0}, api.ErrShort},
		{"six bytes that tell too much", []byte{255, 255, 0, 0, 0, 0}, api.ErrForm},
		{"4097 told, and not there", []byte{16, 1, 0, 0, 0, 0}, api.ErrForm},
		{"4097 told, and there", append([]byte{16, 1, 0, 0, 0, 0}, make([]byte, 4097)...), api.ErrForm},
		{"4096 told, and not there", []byte{16, 0, 0, 0, 0, 0}, api.ErrShort},
		{"4096 told, one lacks", whole[:4101], api.ErrShort},
		{"4096 told, and there", whole, api.OK},
		{"another sum, and short", otherSum[:7], api.ErrShort},
		{"another sum", otherSum, api.ErrSum},
		{"nothing told, no sum", make([]byte, 6), api.ErrSum},
	} {
		body, n, err := Unframe(c.in)
		if err != c.want {
			t.Errorf("%s: %v, want %v", c.name, err, c.want)
		}
		if err != api.OK && (len(body) > 0 || n != 0) {
			t.Errorf("%s: %d bytes, %d beside an error", c.name, len(body), n)
		}
	}
}

// P1.4: no bit of a frame may be another one, and none of its ends be missing.
func TestUnframeOfSpoilt(t *testing.T) {
	f, _ := Frame([]byte("some body"))
	for i := range len(f) * 8 {
		g := slices.Clone(f)
		g[i/8] ^= 1 << (i % 8)
		if _, _, err := Unframe(g); err == api.OK {
			t.Errorf("bit %d", i)
		}
	}
	for n := range f {
		if _, _, err := Unframe(f[:n]); err != api.ErrShort {
			t.Errorf("%d bytes: %v", n, err)
		}
	}
}

// P1.5
func TestFrameMemory(t *testing.T) {
	body := roomy([]byte("body"))
	f, _ := Frame(body)
	if string(body) != "body" || !spareIsLeft(body) {
		t.Errorf("Frame changed what it was given: %q", body)
	}
	clear(body)
	given := roomy(f)
	got, n, err := Unframe(given)
	if !bytes.Equal(given, f) || !spareIsLeft(given) {
		t.Errorf("Unframe changed what it was given: %v", given)
	}
	clear(given)
	if string(got) != "body" || n != 10 || err != api.OK {
		t.Errorf("%q, %d, %v", got, n, err)
	}
	again := slices.Clone(f)
	got, _, _ = Unframe(f)
	clear(got[:cap(got)])
	if !bytes.Equal(f, again) {
		t.Error("a body that was answered is part of the frame")
	}
	summed := roomy([]byte("summed"))
	Sum(summed)
	if string(summed) != "summed" || !spareIsLeft(summed) {
		t.Errorf("Sum changed what it was given: %q", summed)
	}
}
