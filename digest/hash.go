package digest

import (
	"math/bits"
	"strings"

	"gouache/octet"
)

const (
	blockSize  = 64 // bytes that are hashed at a time
	blockWords = 16 // words of 32 bits in a block
	rounds     = 64
	lengthSize = 8 // bytes of the length after the padding, and of the length before a part of a list
	lengthAt   = blockSize - lengthSize
	hashWords  = 8
)

// roundConstants holds the first 32 bits of the fractional parts of the cube roots of the first 64 primes.
var roundConstants = [rounds]uint32{
	0x428a2f98, 0x71374491, 0xb5c0fbcf, 0xe9b5dba5, 0x3956c25b, 0x59f111f1, 0x923f82a4, 0xab1c5ed5,
	0xd807aa98, 0x12835b01, 0x243185be, 0x550c7dc3, 0x72be5d74, 0x80deb1fe, 0x9bdc06a7, 0xc19bf174,
	0xe49b69c1, 0xefbe4786, 0x0fc19dc6, 0x240ca1cc, 0x2de92c6f, 0x4a7484aa, 0x5cb0a9dc, 0x76f988da,
	0x983e5152, 0xa831c66d, 0xb00327c8, 0xbf597fc7, 0xc6e00bf3, 0xd5a79147, 0x06ca6351, 0x14292967,
	0x27b70a85, 0x2e1b2138, 0x4d2c6dfc, 0x53380d13, 0x650a7354, 0x766a0abb, 0x81c2c92e, 0x92722c85,
	0xa2bfe8a1, 0xa81a664b, 0xc24b8b70, 0xc76c51a3, 0xd192e819, 0xd6990624, 0xf40e3585, 0x106aa070,
	0x19a4c116, 0x1e376c08, 0x2748774c, 0x34b0bcb5, 0x391c0cb3, 0x4ed8aa4a, 0x5b9cca4f, 0x682e6ff3,
	0x748f82ee, 0x78a5636f, 0x84c87814, 0x8cc70208, 0x90befffa, 0xa4506ceb, 0xbef9a3f7, 0xc67178f2,
}

// hashValue is the hash value of FIPS 180-4 after some blocks.
type hashValue [hashWords]uint32

// initialHash returns the hash value before the first block: the first 32 bits of the fractional parts of the square roots of the first 8 primes.
func initialHash() hashValue {
	return hashValue{
		0x6a09e667, 0xbb67ae85, 0x3c6ef372, 0xa54ff53a,
		0x510e527f, 0x9b05688c, 0x1f83d9ab, 0x5be0cd19,
	}
}

// padding returns what is appended to a message of the given length in bytes. The padded message consists of complete blocks.
func padding(length int) string {
	const mark = "\x80"
	// One block is added, because the marked message may end after lengthAt.
	zeros := (lengthAt + blockSize - (length+len(mark))%blockSize) % blockSize
	return mark + strings.Repeat("\x00", zeros) + octet.Put(8*length, lengthSize)
}

// absorb hashes a string that consists of complete blocks.
func (hash *hashValue) absorb(blocks string) {
	for at := 0; at < len(blocks); at += blockSize {
		hash.absorbBlock(blocks[at : at+blockSize])
	}
}

// absorbBlock is the compression function; its variables are named as in FIPS 180-4.
func (hash *hashValue) absorbBlock(block string) {
	schedule := messageSchedule(block)
	a, b, c, d := hash[0], hash[1], hash[2], hash[3]
	e, f, g, h := hash[4], hash[5], hash[6], hash[7]
	for round := range rounds {
		rotatedE := rotateRight(e, 6) ^ rotateRight(e, 11) ^ rotateRight(e, 25)
		choice := e&f ^ ^e&g
		t1 := h + rotatedE + choice + roundConstants[round] + schedule[round]

		rotatedA := rotateRight(a, 2) ^ rotateRight(a, 13) ^ rotateRight(a, 22)
		majority := a&b ^ a&c ^ b&c
		t2 := rotatedA + majority

		h, g, f, e = g, f, e, d+t1
		d, c, b, a = c, b, a, t1+t2
	}
	hash[0] += a
	hash[1] += b
	hash[2] += c
	hash[3] += d
	hash[4] += e
	hash[5] += f
	hash[6] += g
	hash[7] += h
}

// messageSchedule expands a block to one word for each round.
func messageSchedule(block string) [rounds]uint32 {
	var schedule [rounds]uint32
	for i := range blockWords {
		word := block[4*i : 4*i+4]
		schedule[i] = uint32(word[0])<<24 | uint32(word[1])<<16 | uint32(word[2])<<8 | uint32(word[3])
	}
	for i := blockWords; i < rounds; i++ {
		early, late := schedule[i-15], schedule[i-2]
		mixedEarly := rotateRight(early, 7) ^ rotateRight(early, 18) ^ early>>3
		mixedLate := rotateRight(late, 17) ^ rotateRight(late, 19) ^ late>>10
		schedule[i] = mixedLate + schedule[i-7] + mixedEarly + schedule[i-16]
	}
	return schedule
}

// bytes returns the hash value as 32 bytes, the most significant byte of each word first.
func (hash *hashValue) bytes() string {
	var encoded strings.Builder
	for i := range hashWords {
		encoded.WriteString(octet.Put(int(hash[i]), 4))
	}
	return encoded.String()
}

// rotateRight rotates the bits of a word to the right.
func rotateRight(word uint32, count int) uint32 {
	return bits.RotateLeft32(word, -count)
}
