// Package word is layer 1: words of 32 bits, as SHA-256 has them (see shared/doc/01-word.md).
package word

import "math/bits"

// size is how many bytes a word has.
const size = 4

// cubeRoots: of each of the first 64 primes the first 32 bits behind the point of its cube root.
var cubeRoots = [64]uint32{
	0x428a2f98, 0x71374491, 0xb5c0fbcf, 0xe9b5dba5, 0x3956c25b, 0x59f111f1, 0x923f82a4, 0xab1c5ed5,
	0xd807aa98, 0x12835b01, 0x243185be, 0x550c7dc3, 0x72be5d74, 0x80deb1fe, 0x9bdc06a7, 0xc19bf174,
	0xe49b69c1, 0xefbe4786, 0x0fc19dc6, 0x240ca1cc, 0x2de92c6f, 0x4a7484aa, 0x5cb0a9dc, 0x76f988da,
	0x983e5152, 0xa831c66d, 0xb00327c8, 0xbf597fc7, 0xc6e00bf3, 0xd5a79147, 0x06ca6351, 0x14292967,
	0x27b70a85, 0x2e1b2138, 0x4d2c6dfc, 0x53380d13, 0x650a7354, 0x766a0abb, 0x81c2c92e, 0x92722c85,
	0xa2bfe8a1, 0xa81a664b, 0xc24b8b70, 0xc76c51a3, 0xd192e819, 0xd6990624, 0xf40e3585, 0x106aa070,
	0x19a4c116, 0x1e376c08, 0x2748774c, 0x34b0bcb5, 0x391c0cb3, 0x4ed8aa4a, 0x5b9cca4f, 0x682e6ff3,
	0x748f82ee, 0x78a5636f, 0x84c87814, 0x8cc70208, 0x90befffa, 0xa4506ceb, 0xbef9a3f7, 0xc67178f2,
}

// squareRoots: of each of the first eight primes the first 32 bits behind the point of its square root.
var squareRoots = [8]uint32{
	0x6a09e667, 0xbb67ae85, 0x3c6ef372, 0xa54ff53a, 0x510e527f, 0x9b05688c, 0x1f83d9ab, 0x5be0cd19,
}

// Get: the first four bytes as a number, the highest first; those that aren't there are 0.
func Get(b []byte) uint32 {
	var four [size]byte
	copy(four[:], b)
	return uint32(four[0])<<24 | uint32(four[1])<<16 | uint32(four[2])<<8 | uint32(four[3])
}

// Put: b, and the four bytes of x behind it, the highest first.
func Put(b []byte, x uint32) []byte {
	// b's spare room may be somebody else's, so that the answer has memory of its own.
	out := make([]byte, 0, len(b)+size)
	out = append(out, b...)
	return append(out, byte(x>>24), byte(x>>16), byte(x>>8), byte(x))
}

// Turn: the bits of x, each n places lower, round about; n below 0: higher.
func Turn(x uint32, n int) uint32 {
	// -n wraps round at the lowest n alone, which is a multiple of 32 either way.
	return bits.RotateLeft32(x, -n)
}

// Choose: of each bit that of y, where x has a 1, and that of z, where it has a 0.
func Choose(x, y, z uint32) uint32 {
	return x&y | ^x&z
}

// Most: of each bit that which two of the three at least have.
func Most(x, y, z uint32) uint32 {
	return x&y | x&z | y&z
}

// Great: the great sum 0 or 1 of x; 0 of another i.
func Great(i int, x uint32) uint32 {
	switch i {
	case 0:
		return Turn(x, 2) ^ Turn(x, 13) ^ Turn(x, 22)
	case 1:
		return Turn(x, 6) ^ Turn(x, 11) ^ Turn(x, 25)
	}
	return 0
}

// Small: the small sum 0 or 1 of x; 0 of another i.
func Small(i int, x uint32) uint32 {
	switch i {
	case 0:
		return Turn(x, 7) ^ Turn(x, 18) ^ x>>3
	case 1:
		return Turn(x, 17) ^ Turn(x, 19) ^ x>>10
	}
	return 0
}

// Prime: the first 32 bits behind the point of the cube root of prime i, from 0 to 63; 0 of another i.
func Prime(i int) uint32 {
	if i < 0 || i >= len(cubeRoots) {
		return 0
	}
	return cubeRoots[i]
}

// Start: the first 32 bits behind the point of the square roots of the first eight primes.
func Start() [8]uint32 {
	return squareRoots
}
