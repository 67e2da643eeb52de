package hash

import "math/bits"

const (
	blockSize = 64
	rounds    = 64
)

// block is the bytes that are summed up at once.
type block [blockSize]byte

// numbers is the eight numbers that the chapter calls a to h.
type numbers [8]uint32

var constants = [rounds]uint32{
	0x428a2f98, 0x71374491, 0xb5c0fbcf, 0xe9b5dba5, 0x3956c25b, 0x59f111f1, 0x923f82a4, 0xab1c5ed5,
	0xd807aa98, 0x12835b01, 0x243185be, 0x550c7dc3, 0x72be5d74, 0x80deb1fe, 0x9bdc06a7, 0xc19bf174,
	0xe49b69c1, 0xefbe4786, 0x0fc19dc6, 0x240ca1cc, 0x2de92c6f, 0x4a7484aa, 0x5cb0a9dc, 0x76f988da,
	0x983e5152, 0xa831c66d, 0xb00327c8, 0xbf597fc7, 0xc6e00bf3, 0xd5a79147, 0x06ca6351, 0x14292967,
	0x27b70a85, 0x2e1b2138, 0x4d2c6dfc, 0x53380d13, 0x650a7354, 0x766a0abb, 0x81c2c92e, 0x92722c85,
	0xa2bfe8a1, 0xa81a664b, 0xc24b8b70, 0xc76c51a3, 0xd192e819, 0xd6990624, 0xf40e3585, 0x106aa070,
	0x19a4c116, 0x1e376c08, 0x2748774c, 0x34b0bcb5, 0x391c0cb3, 0x4ed8aa4a, 0x5b9cca4f, 0x682e6ff3,
	0x748f82ee, 0x78a5636f, 0x84c87814, 0x8cc70208, 0x90befffa, 0xa4506ceb, 0xbef9a3f7, 0xc67178f2,
}

// behind is the eight numbers behind a block. They are kept in variables while
// the rounds go on: rows of eight, copied round by round, take several times as long.
func behind(n numbers, piece block) numbers {
	w := words(piece)
	a, b, c, d, e, f, g, h := n[0], n[1], n[2], n[3], n[4], n[5], n[6], n[7]
	for t := range rounds {
		x := h + (turned(e, 6) ^ turned(e, 11) ^ turned(e, 25)) + (e&f ^ ^e&g) + constants[t] + w[t]
		y := (turned(a, 2) ^ turned(a, 13) ^ turned(a, 22)) + (a&b ^ a&c ^ b&c)
		h, g, f, e, d, c, b, a = g, f, e, d+x, c, b, a, x+y
	}
	return numbers{n[0] + a, n[1] + b, n[2] + c, n[3] + d, n[4] + e, n[5] + f, n[6] + g, n[7] + h}
}

// words is a block's 16 numbers, and the 48 more.
func words(b block) [rounds]uint32 {
	var w [rounds]uint32
	for t := range 16 {
		w[t] = uint32(b[4*t])<<24 | uint32(b[4*t+1])<<16 | uint32(b[4*t+2])<<8 | uint32(b[4*t+3])
	}
	// Counted from 0, not from 16, so that no place is below 0.
	for i := range rounds - 16 {
		far, near := w[i+1], w[i+14]
		s := turned(far, 7) ^ turned(far, 18) ^ far>>3
		z := turned(near, 17) ^ turned(near, 19) ^ near>>10
		w[i+16] = w[i] + w[i+9] + s + z
	}
	return w
}

// turned is a number whose n lowest bits are its highest ones.
func turned(x uint32, n int) uint32 {
	return bits.RotateLeft32(x, -n)
}
