package tree

import (
	"modillion/api"
	"modillion/hash"
	"modillion/wire"
)

// What a sum begins with tells of what it is one: so no leaf, whatever its
// bytes are, can pass for two sums that are put together, nor for a root.
const (
	leafMark byte = iota
	nodeMark
	noneMark
	rootMark
)

func sum(mark byte, parts ...[]byte) api.Hash {
	return hash.Of(append([][]byte{{mark}}, parts...)...)
}

// rootOf is the root of n leaves with that top.
func rootOf(n int, top api.Hash) api.Hash {
	o := wire.NewOut()
	o.Num(uint64(n))
	o.Hash(top)
	return sum(rootMark, []byte(o.Done()))
}
