package many_test

import (
	"cmp"
	"crypto/sha256"
	"encoding/binary"
	"slices"
	"strconv"

	"modillion/api"
)

// The tests hold the package against another way to the same proofs: level by
// level from the leaves on up, two neighbours together, a last one without a
// neighbour going up as it is. No half is cut there, and nothing is gone
// through from the left to the right: sums are sorted by where their parts begin.

// sumOf is the sum of rows of bytes, one behind another.
func sumOf(rows ...string) api.Hash {
	var b []byte
	for _, r := range rows {
		b = append(b, r...)
	}
	return sha256.Sum256(b)
}

func leafOf(s string) api.Hash {
	return sumOf("\x00", s)
}

func nodeOf(a, b api.Hash) api.Hash {
	return sumOf("\x01", string(a[:]), string(b[:]))
}

func rootOf(n int, top api.Hash) api.Hash {
	return sumOf("\x03", string(binary.AppendUvarint(nil, uint64(n))), string(top[:]))
}

// knot is a part: where it begins, whether something in it is asked for, its top.
type knot struct {
	first int
	asked bool
	top   api.Hash
}

// joined is the top of two parts; none, where neither has one that is told: so
// nothing is summed up where parts are only counted.
func joined(a, b api.Hash) api.Hash {
	if a == (api.Hash{}) && b == (api.Hash{}) {
		return a
	}
	return nodeOf(a, b)
}

// upTo is the knot of all leaves. Each one in which none is asked for, and that
// is all, or has a neighbour in which some are, has the top that bare tells of it.
func upTo(level []knot, bare func(knot) api.Hash) knot {
	for len(level) > 1 {
		var up []knot
		for len(level) > 1 {
			a, b := level[0], level[1]
			level = level[2:]
			if !a.asked && b.asked {
				a.top = bare(a)
			}
			if a.asked && !b.asked {
				b.top = bare(b)
			}
			up = append(up, knot{a.first, a.asked || b.asked, joined(a.top, b.top)})
		}
		level = append(up, level...)
	}
	all := level[0]
	if !all.asked {
		all.top = bare(all)
	}
	return all
}

// knotsOf is a knot a leaf; of no leaves one that is all.
func knotsOf(n int, at []int) []knot {
	if n == 0 {
		return []knot{{top: sumOf("\x02")}}
	}
	l := make([]knot, n)
	for i := range l {
		l[i].first = i
	}
	for _, place := range at {
		l[place].asked = true
	}
	return l
}

// bareOf is the knots that a proof has the tops of, in its order.
func bareOf(level []knot) []knot {
	var l []knot
	upTo(level, func(k knot) api.Hash {
		l = append(l, k)
		return k.top
	})
	slices.SortFunc(l, func(a, b knot) int { return cmp.Compare(a.first, b.first) })
	return l
}

func sizeOf(n int, at []int) int {
	return len(bareOf(knotsOf(n, at)))
}

func proofOf(l []string, at []int) []api.Hash {
	level := knotsOf(len(l), at)
	for i, s := range l {
		level[i].top = leafOf(s)
	}
	var proof []api.Hash
	for _, k := range bareOf(level) {
		proof = append(proof, k.top)
	}
	return proof
}

// rootBy is the root that comes of shown leaves and a proof, which are as many
// as there have to be.
func rootBy(n int, at []int, shown []string, proof []api.Hash) api.Hash {
	level := knotsOf(n, at)
	for i, place := range at {
		level[place].top = leafOf(shown[i])
	}
	sums := map[int]api.Hash{}
	for i, k := range bareOf(level) {
		sums[k.first] = proof[i]
	}
	all := upTo(level, func(k knot) api.Hash { return sums[k.first] })
	return rootOf(n, all.top)
}

// leaves is n leaves, no two alike; one of them is empty.
func leaves(n int) []string {
	var l []string
	for i := range n {
		l = append(l, "leaf "+strconv.Itoa(i))
	}
	if n > 0 {
		l[n/2] = ""
	}
	return l
}

// sums is n sums, no two alike.
func sums(n int) []api.Hash {
	var l []api.Hash
	for i := range n {
		l = append(l, sumOf("sum ", strconv.Itoa(i)))
	}
	return l
}

// those is the leaves at some places.
func those(l []string, at []int) []string {
	var shown []string
	for _, place := range at {
		shown = append(shown, l[place])
	}
	return shown
}

// allOf is all places of n leaves.
func allOf(n int) []int {
	var at []int
	for i := range n {
		at = append(at, i)
	}
	return at
}

// setsOf is all ways to ask for some of n leaves.
func setsOf(n int) [][]int {
	var l [][]int
	for set := range 1 << n {
		var at []int
		for i := range n {
			if set>>i&1 == 1 {
				at = append(at, i)
			}
		}
		l = append(l, at)
	}
	return l
}

// someOf is some ways to ask for some of n leaves: none, all, the first ones,
// the last ones, all but one, every other one, every third one.
func someOf(n int) [][]int {
	l := [][]int{nil, allOf(n)}
	if n == 0 {
		return l
	}
	l = append(l, []int{0}, []int{n - 1}, []int{n / 2}, allOf(n)[1:], allOf(n-1), allOf(n)[n/2:], allOf(n/2))
	for step := 2; step < 4; step++ {
		var at []int
		for i := step - 2; i < n; i += step {
			at = append(at, i)
		}
		l = append(l, at)
	}
	if n > 1 {
		l = append(l, []int{0, n - 1}, slices.Delete(allOf(n), n/2, n/2+1))
	}
	return l
}

// wrongPlaces is places that may not be asked for of n leaves: they aren't
// there, stand twice, or fall.
func wrongPlaces(n int) [][]int {
	l := [][]int{{-1}, {n}, {n + 1}, {-n - 1}, {2*n + 1}, {minInt}, {maxInt}, {1 << 16}, {1 << 32}, {0, 0}, {n - 1, n - 1}, {n - 1, n}, {-1, 0}, {0, -1}, {n, n - 1}, append(allOf(n), n), append([]int{-1}, allOf(n)...), {minInt, maxInt}, {maxInt, minInt}}
	if n > 1 {
		twice, turned := allOf(n), allOf(n)
		twice[n-1]--
		slices.Reverse(turned)
		l = append(l, []int{1, 0}, []int{n - 1, 0}, []int{n - 1, n - 2}, []int{0, 1, 0}, []int{0, 1, 1}, []int{0, 0, 1}, turned, twice)
	}
	return l
}
