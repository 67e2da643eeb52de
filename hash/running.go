package hash

import "modillion/api"

// running is a sum of which more bytes may come. It keeps one block at most,
// so that parts of any length needn't be laid together first.
type running struct {
	now   numbers
	part  block
	fill  int
	bytes uint64
}

func begin() *running {
	return &running{now: numbers{
		0x6a09e667, 0xbb67ae85, 0x3c6ef372, 0xa54ff53a,
		0x510e527f, 0x9b05688c, 0x1f83d9ab, 0x5be0cd19,
	}}
}

func (r *running) take(p []byte) {
	r.bytes += uint64(len(p))
	for len(p) > 0 {
		n := copy(r.part[r.fill:], p)
		r.fill += n
		p = p[n:]
		if r.fill == blockSize {
			r.now = behind(r.now, r.part)
			r.fill = 0
		}
	}
}

func (r *running) end() api.Hash {
	r.take(ending(r.bytes))
	var h api.Hash
	for i, n := range r.now {
		for k := range 4 {
			h[4*i+k] = byte(n >> (24 - 8*k))
		}
	}
	return h
}

// ending is what stands behind so many bytes, so that they are whole blocks.
func ending(n uint64) []byte {
	// 1 + noughts + 8 bytes fill up the last block: noughts is 55 - n, modulo
	// 64, and 64 more keep it from going below 0.
	noughts := (blockSize + 55 - n%blockSize) % blockSize
	e := make([]byte, 1+noughts, 1+noughts+8)
	e[0] = 128
	count := 8 * n
	for k := range 8 {
		e = append(e, byte(count>>(56-8*k)))
	}
	return e
}
