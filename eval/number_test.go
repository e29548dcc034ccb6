package eval

import (
	"bytes"
	"math"
	"testing"
)

// numbers gives numbers at the edges, with their bytes.
func numbers() map[int64][]byte {
	return map[int64][]byte{
		0:                  {0, 0, 0, 0, 0, 0, 0, 0},
		1:                  {0, 0, 0, 0, 0, 0, 0, 1},
		5:                  {0, 0, 0, 0, 0, 0, 0, 5},
		255:                {0, 0, 0, 0, 0, 0, 0, 255},
		256:                {0, 0, 0, 0, 0, 0, 1, 0},
		-1:                 {255, 255, 255, 255, 255, 255, 255, 255},
		-2:                 {255, 255, 255, 255, 255, 255, 255, 254},
		-256:               {255, 255, 255, 255, 255, 255, 255, 0},
		0x0102030405060708: {1, 2, 3, 4, 5, 6, 7, 8},
		1 << 32:            {0, 0, 0, 1, 0, 0, 0, 0},
		math.MaxInt64:      {127, 255, 255, 255, 255, 255, 255, 255},
		math.MinInt64:      {128, 0, 0, 0, 0, 0, 0, 0},
		math.MinInt64 + 1:  {128, 0, 0, 0, 0, 0, 0, 1},
	}
}

// P7.1
func TestNumberAndValue(t *testing.T) {
	for n, value := range numbers() {
		if got := Value(n); !bytes.Equal(got, value) {
			t.Errorf("Value(%d): %v, want %v", n, got, value)
		}
		if got, ok := Number(value); got != n || !ok {
			t.Errorf("Number(%v): %d, %v, want %d", value, got, ok, n)
		}
	}
}

// P7.1: a number has 8 bytes.
func TestNumberOfOtherSizes(t *testing.T) {
	long := bytes.Repeat([]byte{1}, 40)
	for size := range long {
		n, ok := Number(long[:size])
		if ok != (size == 8) || !ok && n != 0 {
			t.Errorf("Number of %d bytes: %d, %v", size, n, ok)
		}
	}
	if n, ok := Number(nil); n != 0 || ok {
		t.Errorf("Number of nothing: %d, %v", n, ok)
	}
}

// P7.6: Number changes nothing, Value gives new memory.
func TestNumberMemory(t *testing.T) {
	given := []byte{1, 2, 3, 4, 5, 6, 7, 8, 9}
	Number(given[:8])
	if !bytes.Equal(given, []byte{1, 2, 3, 4, 5, 6, 7, 8, 9}) {
		t.Errorf("Number changed what it was given: %v", given)
	}
	first, second := Value(-1), Value(-1)
	clear(first[:cap(first)])
	if n, ok := Number(second); n != -1 || !ok {
		t.Errorf("two answers share memory: %v", second)
	}
}
