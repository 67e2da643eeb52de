package many_test

import (
	"slices"
	"testing"

	"modillion/api"
	"modillion/many"
	"modillion/tree"
)

// accepted fails if Check says no.
func accepted(t *testing.T, why string, root api.Hash, n int, at []int, shown []string, proof []api.Hash) {
	t.Helper()
	if !many.Check(root, n, at, shown, proof) {
		t.Errorf("%s: Check says no of %d of %d leaves, %.30v, %d sums", why, len(shown), n, at, len(proof))
	}
}

// refused fails if Check says yes.
func refused(t *testing.T, why string, root api.Hash, n int, at []int, shown []string, proof []api.Hash) {
	t.Helper()
	if many.Check(root, n, at, shown, proof) {
		t.Errorf("%s: Check says yes of %d of %d leaves, %v, %d sums", why, len(shown), n, at, len(proof))
	}
}

// P4.2: a proof proves its own leaves at their own places, leaves of nothing
// and leaves that are alike too.
func TestCheckOwn(t *testing.T) {
	for n := range 9 {
		for _, l := range [][]string{leaves(n), make([]string, n)} {
			for _, at := range setsOf(n) {
				proof, _ := many.Prove(l, at)
				accepted(t, "its own", tree.Root(l), n, at, those(l, at), proof)
			}
		}
	}
	for _, n := range numbers() {
		l := leaves(n)
		for _, at := range someOf(n) {
			proof, _ := many.Prove(l, at)
			accepted(t, "its own", tree.Root(l), n, at, those(l, at), proof)
		}
	}
}

// P4.2: of other places, though as many leaves of the same list are shown, a
// proof proves nothing, whether those leaves are shown or these.
func TestCheckOtherPlaces(t *testing.T) {
	for n := range 7 {
		l := leaves(n)
		root := tree.Root(l)
		for _, at := range setsOf(n) {
			proof, _ := many.Prove(l, at)
			for _, other := range setsOf(n) {
				if slices.Equal(at, other) {
					continue
				}
				refused(t, "their leaves, other places", root, n, other, those(l, at), proof)
				refused(t, "other places and leaves", root, n, other, those(l, other), proof)
			}
		}
	}
}

// P4.2: whatever leaves and sums are shown, it is the root of them that counts.
func TestCheckAnySums(t *testing.T) {
	for n := range 9 {
		for _, at := range setsOf(n) {
			proof, shown := sums(sizeOf(n, at)), make([]string, len(at))
			for i := range shown {
				shown[i] = string(rune('a' + i))
			}
			root := rootBy(n, at, shown, proof)
			accepted(t, "any sums", root, n, at, shown, proof)
			for number := range n + 4 {
				if number != n {
					refused(t, "any sums, another number", root, number, at, shown, proof)
				}
			}
		}
	}
}

// P4.2: places that may not be asked for, with the leaves and the sums that
// would be right if they might, or with no sums, as Size tells of them.
func TestCheckWrongPlaces(t *testing.T) {
	for _, n := range []int{0, 1, 2, 3, 4, 5, 7, 8, 9} {
		l := leaves(n)
		root := tree.Root(l)
		for _, at := range wrongPlaces(n) {
			var shown []string
			for _, place := range at {
				shown = append(shown, append(l, "")[max(0, min(place, n))])
			}
			var fit []int
			for _, place := range at {
				if 0 <= place && place < n {
					fit = append(fit, place)
				}
			}
			slices.Sort(fit)
			fit = slices.Compact(fit)
			proof, _ := many.Prove(l, fit)
			refused(t, "their sums", root, n, at, shown, proof)
			refused(t, "their leaves and sums", root, n, at, those(l, fit), proof)
			refused(t, "no sums", root, n, at, shown, nil)
			refused(t, "nothing", root, n, at, nil, nil)
			for _, one := range shown {
				refused(t, "a root of what is shown", rootOf(n, leafOf(one)), n, at, shown, nil)
			}
		}
	}
}

// P4.2: proofs with something wrong.
func TestCheckWrong(t *testing.T) {
	for _, n := range []int{0, 1, 2, 3, 4, 5, 7, 8, 9, 16, 17, 33} {
		l := leaves(n)
		root := tree.Root(l)
		for _, at := range someOf(n) {
			proof, _ := many.Prove(l, at)
			shown := those(l, at)
			accepted(t, "right", root, n, at, shown, proof)
			for _, number := range []int{n - 1, n + 1, n + 2, 2*n + 1, n + 128, -1, -n - 1, most, most + 1, 1<<32 + n, minInt, maxInt} {
				refused(t, "another number of leaves", root, number, at, shown, proof)
			}
			for _, other := range []api.Hash{{}, tree.Top(l), tree.Root(append(leaves(n), "")), tree.Root(append([]string{""}, l...))} {
				refused(t, "another root", other, n, at, shown, proof)
			}
			wrongLeaves(t, root, n, at, shown, proof)
			wrongSums(t, root, n, at, shown, proof)
		}
	}
}

// wrongLeaves tries one leaf too few, too many, changed, and all of them turned.
func wrongLeaves(t *testing.T, root api.Hash, n int, at []int, shown []string, proof []api.Hash) {
	t.Helper()
	for i := range len(shown) + 1 {
		for _, more := range []string{"", "leaf 0"} {
			refused(t, "one leaf more", root, n, at, slices.Insert(slices.Clone(shown), i, more), proof)
		}
	}
	for i, leaf := range shown {
		refused(t, "one leaf fewer", root, n, at, slices.Delete(slices.Clone(shown), i, i+1), proof)
		for _, other := range []string{leaf + "\x00", "\x00" + leaf, "leaf", "leaf 99"} {
			changed := slices.Clone(shown)
			changed[i] = other
			refused(t, "another leaf", root, n, at, changed, proof)
		}
	}
	if len(shown) > 0 {
		refused(t, "no leaves", root, n, at, nil, proof)
	}
	if len(shown) > 1 {
		turned := slices.Clone(shown)
		slices.Reverse(turned)
		refused(t, "leaves turned", root, n, at, turned, proof)
	}
}

// wrongSums tries one sum too few, too many, changed, and all of them turned.
func wrongSums(t *testing.T, root api.Hash, n int, at []int, shown []string, proof []api.Hash) {
	t.Helper()
	for i := range len(proof) + 1 {
		for _, more := range []api.Hash{{}, root, tree.Top(nil)} {
			refused(t, "one sum more", root, n, at, shown, slices.Insert(slices.Clone(proof), i, more))
		}
	}
	for i := range proof {
		refused(t, "one sum fewer", root, n, at, shown, slices.Delete(slices.Clone(proof), i, i+1))
		for _, place := range []int{0, 15, 31} {
			other := slices.Clone(proof)
			other[i][place] ^= 1
			refused(t, "another sum", root, n, at, shown, other)
		}
	}
	if len(proof) > 0 {
		refused(t, "no sums", root, n, at, shown, nil)
	}
	if len(proof) > 1 {
		turned := slices.Clone(proof)
		slices.Reverse(turned)
		refused(t, "sums turned", root, n, at, shown, turned)
	}
}

// P4.2: a root of which every bit counts.
func TestCheckWholeRoot(t *testing.T) {
	l, at := leaves(5), []int{1, 3}
	root := tree.Root(l)
	proof, _ := many.Prove(l, at)
	for i := range root {
		for bit := range 8 {
			other := root
			other[i] ^= 1 << bit
			refused(t, "one bit of the root", other, 5, at, those(l, at), proof)
		}
	}
}

// P4.2: no leaves, and no place asked for: the one sum is the top of all.
func TestCheckNothing(t *testing.T) {
	none := tree.Top(nil)
	accepted(t, "no leaves", tree.Root(nil), 0, nil, nil, []api.Hash{none})
	accepted(t, "no leaves", tree.Root(nil), 0, []int{}, []string{}, []api.Hash{none})
	refused(t, "no leaves, no sums", tree.Root(nil), 0, nil, nil, nil)
	refused(t, "no leaves, another sum", tree.Root(nil), 0, nil, nil, []api.Hash{{}})
	refused(t, "no leaves, one shown", tree.Root(nil), 0, nil, []string{""}, []api.Hash{none})
	for _, n := range []int{1, 2, 3, 8, 127, 128, most} {
		top := sums(1)
		accepted(t, "none asked for", rootOf(n, top[0]), n, nil, nil, top)
		refused(t, "none asked for, no sums", rootOf(n, top[0]), n, nil, nil, nil)
		refused(t, "none asked for, the top of none", rootOf(n, top[0]), n, nil, nil, []api.Hash{none})
	}
}

// P4.2: up to 2^16 leaves the root of what is shown counts, above it and below
// 0 nothing does, though the sums would be right, or there were none, as Size tells.
func TestCheckMost(t *testing.T) {
	for _, n := range []int{most/2 + 1, most - 1, most, most + 1, most + 2, 2 * most} {
		for _, at := range [][]int{nil, {0}, {n - 1}, {0, 5, n/2 - 1, n / 2, n - 2, n - 1}} {
			proof, shown := sums(sizeOf(n, at)), leaves(len(at))
			root := rootBy(n, at, shown, proof)
			if n > most {
				refused(t, "too many", root, n, at, shown, proof)
				refused(t, "too many, no sums", root, n, at, shown, nil)
				continue
			}
			accepted(t, "right", root, n, at, shown, proof)
			refused(t, "one more leaf", root, n+1, at, shown, proof)
			refused(t, "one sum more", root, n, at, shown, sums(len(proof)+1))
			refused(t, "one sum fewer", root, n, at, shown, proof[1:])
		}
	}
	for _, n := range []int{-1, -2, -most, minInt} {
		for _, at := range [][]int{nil, {0}, {-1}, {n}} {
			for _, root := range []api.Hash{{}, rootOf(n, api.Hash{}), tree.Root(nil)} {
				refused(t, "below 0", root, n, at, make([]string, len(at)), nil)
				refused(t, "below 0", root, n, at, make([]string, len(at)), make([]api.Hash, 1))
			}
		}
	}
}

// P4.2: all of 2^16 leaves are shown; one more are too many.
func TestCheckAllOfMost(t *testing.T) {
	l := leaves(most + 1)
	accepted(t, "all", tree.Root(l[:most]), most, allOf(most), l[:most], nil)
	if many.Check(tree.Root(l), most+1, allOf(most+1), l, nil) {
		t.Error("all of 2^16 + 1: Check says yes")
	}
}

// P4.2: who shows an inner part's sums as a leaf proves nothing.
func TestCheckForged(t *testing.T) {
	l := []string{"a", "b", "c", "d"}
	root := tree.Root(l)
	a, b := tree.Leaf("a"), tree.Leaf("b")
	right := tree.Node(tree.Leaf("c"), tree.Leaf("d"))
	for _, leaf := range []string{string(a[:]) + string(b[:]), "\x01" + string(a[:]) + string(b[:])} {
		for n := range 6 {
			for place := range n {
				refused(t, "a part as a leaf", root, n, []int{place}, []string{leaf}, []api.Hash{right})
			}
		}
		refused(t, "a part as a leaf", root, 3, []int{0, 1, 2}, []string{leaf, "c", "d"}, nil)
	}
}
