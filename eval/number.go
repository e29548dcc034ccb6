package eval

// numberBytes is how many bytes a number has as a value.
const numberBytes = 8

// Number gives the number of a value.
func Number(value []byte) (int64, bool) {
	if len(value) != numberBytes {
		return 0, false
	}
	n := uint64(0)
	for _, b := range value {
		n = n<<8 | uint64(b)
	}
	return int64(n), true
}

// Value gives the value of a number.
func Value(n int64) []byte {
	value := make([]byte, numberBytes)
	for i := range value {
		value[i] = byte(n >> (8 * (numberBytes - 1 - i)))
	}
	return value
}

// together gives the sum of two numbers, and whether it is a number too.
func together(a, b int64) (int64, bool) {
	sum := a + b
	// It wraps round where both have one sign and it has the other.
	return sum, (a < 0) != (b < 0) || (sum < 0) == (a < 0)
}
