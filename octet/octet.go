// Package octet is layer 1: it encodes integers and strings as bytes, decodes them with a sequential reader, and computes a CRC-32 checksum. It is specified in shared/doc/01-octet.md.
package octet

const (
	maxFixedSize = 8  // bytes of a 64-bit integer
	maxGroups    = 10 // groups of 7 bits that a 64-bit integer may need
	groupBits    = 7
	groupMask    = 1<<groupBits - 1
	moreGroups   = 1 << groupBits // set in every byte but the last of a variable-length encoding

	checksumPolynomial = 0xEDB88320
)

// Put returns the low size bytes of n in big-endian order; size is clamped to 0..8.
func Put(n, size int) string {
	encoded := make([]byte, clampFixedSize(size))
	rest := uint64(n)
	for i := len(encoded) - 1; i >= 0; i-- {
		encoded[i] = byte(rest)
		rest >>= 8
	}
	return string(encoded)
}

// Var returns the unsigned LEB128 encoding of n, taken as a 64-bit two's complement integer.
func Var(n int) string {
	var encoded [maxGroups]byte
	used := 0
	rest := uint64(n)
	for rest > groupMask {
		encoded[used] = byte(rest)&groupMask | moreGroups
		rest >>= groupBits
		used++
	}
	encoded[used] = byte(rest)
	return string(encoded[:used+1])
}

// Text returns s preceded by its length in the encoding of Var.
func Text(s string) string {
	return Var(len(s)) + s
}

// Sum returns the CRC-32 checksum of s (IEEE 802.3, reflected).
func Sum(s string) uint32 {
	table := checksumTable()
	register := ^uint32(0)
	for i := 0; i < len(s); i++ {
		register = register>>8 ^ table[byte(register)^s[i]]
	}
	return ^register
}

// checksumTable returns what eight steps make of a register that holds only the given byte.
//
// A step is linear with respect to exclusive or. Hence only the eight entries of single bits are computed by steps, and every other entry combines two earlier ones; this keeps the checksums of short strings cheap, although the table is built anew for each of them.
func checksumTable() [256]uint32 {
	var table [256]uint32
	step := func(register uint32) uint32 {
		if register&1 == 1 {
			return register>>1 ^ checksumPolynomial
		}
		return register >> 1
	}
	// The byte 128 is shifted to 1 by seven of the eight steps, 64 by six, and so on: the entry of each bit is one step further than that of the next higher bit.
	register := uint32(1)
	for bit := 128; bit > 0; bit >>= 1 {
		register = step(register)
		for other := 0; other < len(table); other += 2 * bit {
			table[other+bit] = table[other] ^ register
		}
	}
	return table
}

// clampFixedSize maps a number of bytes to the nearest one that a fixed-size integer can have.
func clampFixedSize(size int) int {
	return min(max(size, 0), maxFixedSize)
}
