package tree_test

import (
	"crypto/sha256"
	"encoding/binary"
	"strconv"

	"modillion/api"
)

// The tests hold the package against another way to the same sums: level by
// level from the leaves on up, two neighbours together, a last one without a
// neighbour going up as it is. No half is cut there.

// sumOf is the sum of rows of bytes, one behind another.
func sumOf(rows ...string) api.Hash {
	var b []byte
	for _, r := range rows {
		b = append(b, r...)
	}
	return sha256.Sum256(b)
}

func leafOf(s string) api.Hash {
	return sumOf("\x00", s)
}

func nodeOf(a, b api.Hash) api.Hash {
	return sumOf("\x01", string(a[:]), string(b[:]))
}

// levelUp is the next level of sums.
func levelUp(l []api.Hash) []api.Hash {
	var up []api.Hash
	for len(l) > 1 {
		up = append(up, nodeOf(l[0], l[1]))
		l = l[2:]
	}
	return append(up, l...)
}

func leafSums(l []string) []api.Hash {
	var sums []api.Hash
	for _, s := range l {
		sums = append(sums, leafOf(s))
	}
	return sums
}

func topOf(l []string) api.Hash {
	if len(l) == 0 {
		return sumOf("\x02")
	}
	sums := leafSums(l)
	for len(sums) > 1 {
		sums = levelUp(sums)
	}
	return sums[0]
}

func rootOf(n int, top api.Hash) api.Hash {
	return sumOf("\x03", string(binary.AppendUvarint(nil, uint64(n))), string(top[:]))
}

func proofOf(l []string, at int) []api.Hash {
	var proof []api.Hash
	for sums := leafSums(l); len(sums) > 1; sums = levelUp(sums) {
		if beside := at ^ 1; beside < len(sums) {
			proof = append(proof, sums[beside])
		}
		at /= 2
	}
	return proof
}

// deepOf is how many neighbours there are on the way of the at-th of n leaves.
func deepOf(n, at int) int {
	deep := 0
	for ; n > 1; n, at = n/2+n%2, at/2 {
		if at^1 < n {
			deep++
		}
	}
	return deep
}

// rootBy is the root that comes of a leaf and a proof, which is long enough,
// however many leaves there are.
func rootBy(n, at int, leaf string, proof []api.Hash) api.Hash {
	top := leafOf(leaf)
	for width := n; width > 1; width, at = width/2+width%2, at/2 {
		if at%2 == 1 {
			top, proof = nodeOf(proof[0], top), proof[1:]
		} else if at+1 < width {
			top, proof = nodeOf(top, proof[0]), proof[1:]
		}
	}
	return rootOf(n, top)
}

// leaves is n leaves, no two alike; one of them is empty.
func leaves(n int) []string {
	var l []string
	for i := range n {
		l = append(l, "leaf "+strconv.Itoa(i))
	}
	if n > 0 {
		l[n/2] = ""
	}
	return l
}

// sums is n sums, no two alike.
func sums(n int) []api.Hash {
	var l []api.Hash
	for i := range n {
		l = append(l, sumOf("sum ", strconv.Itoa(i)))
	}
	return l
}
