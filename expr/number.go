package expr

import "math/bits"

// number is a whole number, exact; 0 isn't below 0.
type number struct {
	below bool
	size  uint64
}

// bounded is the number of this sign and size, and whether it is from -2^63 to 2^64 - 1; over is what the size has
// above its 64 bits.
func bounded(below bool, over uint64, size uint64) (number, bool) {
	return number{below && size > 0, size}, over == 0 && (!below || size <= 1<<63)
}

func opposite(a number) (number, bool) {
	return bounded(!a.below, 0, a.size)
}

func sum(a number, b number) (number, bool) {
	if a.below == b.below {
		size, over := bits.Add64(a.size, b.size, 0)
		return bounded(a.below, over, size)
	}
	if a.size < b.size {
		a, b = b, a
	}
	return bounded(a.below, 0, a.size-b.size)
}

// difference is the sum with b's opposite, which needn't be in the bounds itself.
func difference(a number, b number) (number, bool) {
	return sum(a, number{!b.below, b.size})
}

func product(a number, b number) (number, bool) {
	over, size := bits.Mul64(a.size, b.size)
	return bounded(a.below != b.below, over, size)
}

// bitsOf is the number in two's complement.
func bitsOf(a number) uint64 {
	if a.below {
		return -a.size
	}
	return a.size
}
