package snap

import (
	"bytes"
	"slices"
	"strconv"
	"testing"

	"argosy/api"
)

// sizes are those of bodies at the edges of a number's bytes, and of the parts.
func sizes() []int {
	return []int{0, 1, 2, 127, 128, 1023, 1024, 1025, 2047, 2048, 2049, 4096, 5000, 16383, 16384, 40000}
}

// P8.1: the chapter's example.
func TestPackNothing(t *testing.T) {
	for _, b := range [][]byte{nil, {}} {
		got := Pack(b)
		if len(got) != 7 || got[0] != 0 || got[1] != 1 || got[6] != 0 || !bytes.Equal(got, frames(t, []byte{0})) {
			t.Errorf("%v", got)
		}
	}
}

// P8.1: the size, and parts of 1024 bytes.
func TestPack(t *testing.T) {
	b := body(1, 2500)
	for size, parts := range map[int][][]byte{
		1:    {{1}, b[:1]},
		127:  {{127}, b[:127]},
		128:  {{128, 1}, b[:128]},
		300:  {{172, 2}, b[:300]},
		1023: {{255, 7}, b[:1023]},
		1024: {{128, 8}, b[:1024]},
		1025: {{129, 8}, b[:1024], b[1024:1025]},
		2048: {{128, 16}, b[:1024], b[1024:2048]},
		2500: {{196, 19}, b[:1024], b[1024:2048], b[2048:]},
	} {
		if got := Pack(b[:size]); !bytes.Equal(got, frames(t, parts...)) {
			t.Errorf("Pack of %d bytes: %d", size, len(got))
		}
	}
}

// P8.1: what was packed comes back.
func TestUnpack(t *testing.T) {
	for _, size := range sizes() {
		b := body(size, size)
		if got, err := Unpack(Pack(b)); !bytes.Equal(got, b) || err != api.OK {
			t.Errorf("%d bytes: %d, %v", size, len(got), err)
		}
		for _, same := range [][]byte{make([]byte, size), bytes.Repeat([]byte{255}, size)} {
			if got, err := Unpack(Pack(same)); !bytes.Equal(got, same) || err != api.OK {
				t.Errorf("%d bytes that are alike: %d, %v", size, len(got), err)
			}
		}
	}
}

// torn asks Unpack of what isn't what Pack gives.
func torn(t *testing.T, name string, data []byte) {
	t.Helper()
	if got, err := Unpack(data); len(got) != 0 || err != api.ErrTorn {
		t.Errorf("Unpack of %s: %d bytes, %v", name, len(got), err)
	}
}

// P8.1: frames that are no body's.
func TestUnpackErrors(t *testing.T) {
	b := body(2, 3000)
	first, second, third := b[:1024], b[1024:2048], b[2048:]
	whole := frames(t, number(3000), first, second, third)
	if got, err := Unpack(whole); !bytes.Equal(got, b) || err != api.OK {
		t.Fatalf("the whole: %d bytes, %v", len(got), err)
	}
	for name, parts := range map[string][][]byte{
		"an empty first frame":       {{}},
		"an empty first frame ahead": {{}, b[:10]},
		"no number":                  {{128}},
		"a number of two forms":      {{128, 0}},
		"a number and more":          {{0, 0}},
		"another size and a body":    {{10}, b[:10], {}},
		"a number and the body":      {{3, 'a', 'b', 'c'}},
		"a body alone":               {b[:10]},
		"a size without a body":      {{10}},
		"one byte fewer than told":   {number(11), b[:10]},
		"one byte more than told":    {number(9), b[:10]},
		"nothing told, a byte there": {{0}, {0}},
		"a small first part":         {number(2000), b[:976], b[976:2000]},
		"a small part between":       {number(3000), first, b[1024:1976], b[1976:]},
		"a part of 1023":             {number(1024), b[:1023], b[1023:1024]},
		"a part of 1025":             {number(1025), b[:1025]},
		"a part of 4096":             {number(4096), body(3, 4096)},
		"an empty part at the end":   {number(1024), first, {}},
		"an empty part ahead":        {number(10), {}, b[:10]},
		"an empty part of nothing":   {{0}, {}},
		"two sizes":                  {number(10), number(10), b[:10]},
		"the first part is missing":  {number(3000), second, third},
		"the last part is missing":   {number(3000), first, second},
		"a part twice":               {number(3000), first, second, second, third},
		"parts in another order":     {number(3000), first, third, second},
		"the size last":              {first, second, third, number(3000)},
	} {
		torn(t, name, frames(t, parts...))
	}
	torn(t, "nil", nil)
	torn(t, "nothing", []byte{})
	torn(t, "a byte behind", append(slices.Clone(whole), 0))
	torn(t, "two bodies", append(slices.Clone(whole), whole...))
	torn(t, "bytes without frames", b)
}

// P8.1: each part of the bytes alone, and each bit another one.
func TestUnpackDamage(t *testing.T) {
	whole := Pack(body(4, 1500))
	for n := range whole {
		torn(t, "the first "+strconv.Itoa(n)+" bytes", whole[:n])
		torn(t, "all but the first "+strconv.Itoa(n+1)+" bytes", whole[n+1:])
		damaged := slices.Clone(whole)
		damaged[n] ^= 1 << (n % 8)
		torn(t, "another byte "+strconv.Itoa(n), damaged)
	}
}

// P8.1: bytes that are taken are those that Pack gives.
func TestUnpackOfAnyFrames(t *testing.T) {
	taken := 0
	for seed := range uint64(3000) {
		next := steps(seed)
		told := next(3) * 512
		parts := [][]byte{number(told)}
		for range next(4) {
			parts = append(parts, body(next(9), []int{0, 1, 511, 512, 1023, 1024, 1025}[next(7)]))
		}
		data := frames(t, parts...)
		got, err := Unpack(data)
		if right := bytes.Equal(Pack(slices.Concat(parts[1:]...)), data); right != (err == api.OK) {
			t.Fatalf("seed %d: %v", seed, err)
		}
		if err == api.OK {
			taken++
			if !bytes.Equal(got, slices.Concat(parts[1:]...)) {
				t.Fatalf("seed %d: %d bytes", seed, len(got))
			}
		} else {
			torn(t, "frames", data)
		}
	}
	if taken == 0 {
		t.Error("none was taken")
	}
}

// P8.4: of Pack and Unpack.
func TestPackMemory(t *testing.T) {
	for _, size := range []int{0, 5, 1024, 1500} {
		b := body(5, size)
		given := roomy(b)
		first, second := Pack(given), Pack(given)
		packed := slices.Clone(first)
		clear(first[:cap(first)])
		if !isUnchanged(given, b) || !bytes.Equal(second, packed) {
			t.Errorf("Pack of %d bytes shares memory", size)
		}
		clear(given)
		if !bytes.Equal(second, packed) {
			t.Errorf("what Pack gave of %d bytes is kept elsewhere", size)
		}
		data := roomy(packed)
		one, _ := Unpack(data)
		two, _ := Unpack(data)
		clear(one[:cap(one)])
		if !isUnchanged(data, packed) || !bytes.Equal(two, b) {
			t.Errorf("Unpack to %d bytes shares memory", size)
		}
		clear(data)
		if !bytes.Equal(two, b) {
			t.Errorf("what Unpack gave of %d bytes is kept elsewhere", size)
		}
	}
}
