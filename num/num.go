// Package num is layer 1: numbers as bytes: see shared/doc/01-num.md.
package num

const (
	// varMax is how many bytes the longest PutVar has: nine parts of seven bits hold 63 bits, the tenth the last one.
	varMax   = 10
	partBits = 7
	more     = 1 << partBits
)

// PutVar is x in parts of seven bits, the lowest first, each but the last with 128 more.
func PutVar(x uint64) []byte {
	var out [varMax]byte
	n := 0
	for x >= more {
		out[n] = byte(x) | more
		x >>= partBits
		n++
	}
	out[n] = byte(x)
	return out[:n+1]
}

// Var is the number whose PutVar b begins with, and how many bytes that has; 0 and 0, if there is none.
func Var(b []byte) (uint64, int) {
	var x uint64
	for i, c := range b {
		// The tenth byte has room for one bit: what is above it, or goes on, is beyond 64 bits. So none behind it is looked at.
		if i == varMax-1 && c > 1 {
			return 0, 0
		}
		x |= uint64(c&(more-1)) << (partBits * i)
		if c >= more {
			continue
		}
		// A last part of 0 behind others is one that PutVar leaves out.
		if c == 0 && i > 0 {
			return 0, 0
		}
		return x, i + 1
	}
	return 0, 0
}

// Zig is 2n, if n is not below 0, else -2n - 1: numbers near 0 stay small, whatever their sign.
func Zig(n int64) uint64 {
	twice := uint64(n) << 1
	if n < 0 {
		return ^twice
	}
	return twice
}

// Zag is the n whose Zig is u.
func Zag(u uint64) int64 {
	half := int64(u >> 1)
	if u&1 == 1 {
		return ^half
	}
	return half
}

// wide is a number of 64 bits as bytes, the lowest first.
type wide [8]byte

// Put64 is x as eight bytes, the lowest first.
func Put64(x uint64) []byte {
	var out wide
	for i := range out {
		out[i] = byte(x >> (8 * i))
	}
	return out[:]
}

// Get64 is the number of the first eight bytes of b, and true; 0 and false, if there are fewer.
func Get64(b []byte) (uint64, bool) {
	var in wide
	if copy(in[:], b) < len(in) {
		return 0, false
	}
	var x uint64
	for i, c := range in {
		x |= uint64(c) << (8 * i)
	}
	return x, true
}
