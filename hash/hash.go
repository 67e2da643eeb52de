// Package hash is layer 1: see shared/doc/01-hash.md.
package hash

import (
	"bytes"

	"modillion/api"
)

// Of is the sum of bytes, part by part.
func Of(parts ...[]byte) api.Hash {
	r := begin()
	for _, p := range parts {
		r.take(p)
	}
	return r.end()
}

// Text is a sum as a text.
func Text(h api.Hash) string {
	var t text
	put := t.digit
	for _, b := range h {
		put(b >> 4)
		put(b & 15)
	}
	return string(t.bytes[:])
}

// Read is the sum of a text.
func Read(s string) (api.Hash, api.Errno) {
	if len(s) != textSize {
		return api.Hash{}, api.ErrHashText
	}
	var h api.Hash
	for i := range sumSize {
		high, okHigh := value(s[2*i])
		low, okLow := value(s[2*i+1])
		if !okHigh || !okLow {
			return api.Hash{}, api.ErrHashText
		}
		h[i] = high<<4 | low
	}
	return h, api.OK
}

// Less is whether one sum comes ahead of another one.
func Less(a, b api.Hash) bool {
	return bytes.Compare(a[:], b[:]) < 0
}
