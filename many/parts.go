package many

import (
	"modillion/api"
	"modillion/hash"
	"modillion/tree"
	"modillion/wire"
)

// rootMark is what chapter 3 lets a root's bytes begin with.
const rootMark = 3

// together goes through the leaves from first to below end, from the left to
// the right, and puts together what it is told of them as their tops are put
// together: a part in which none is asked for is left whole, and bare is told
// of it; any other one is cut down to the leaves that are asked for.
func together[T any](first, end int, at []int, bare func(first, end int) T, asked func() T, both func(left, right T) T) T {
	if len(at) == 0 {
		return bare(first, end)
	}
	if end-first < 2 {
		return asked()
	}
	middle := first + tree.Half(end-first)
	k := below(middle, at)
	left := together(first, middle, at[:k], bare, asked, both)
	right := together(middle, end, at[k:], bare, asked, both)
	return both(left, right)
}

// below is how many of places that rise are below that one.
func below(place int, at []int) int {
	for i := range len(at) {
		if at[i] >= place {
			return i
		}
	}
	return len(at)
}

// rootOf is the root of n leaves with that top. Package tree tells roots of
// leaves that are all at hand alone.
func rootOf(n int, top api.Hash) api.Hash {
	o := wire.NewOut()
	o.Num(uint64(n))
	o.Hash(top)
	return hash.Of([]byte{rootMark}, []byte(o.Done()))
}
