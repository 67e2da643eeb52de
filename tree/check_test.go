package tree_test

import (
	"math"
	"slices"
	"testing"

	"modillion/api"
	"modillion/tree"
)

// P3.2 and P3.3: a proof proves its own leaf, at its own place, and no other
// one, and nowhere else (no two leaves are alike here).
func TestCheckOwn(t *testing.T) {
	for n := 1; n <= 20; n++ {
		l := leaves(n)
		root := tree.Root(l)
		for at := range n {
			proof, _ := tree.Prove(l, at)
			for place := range n {
				for k, leaf := range l {
					if got, want := tree.Check(root, n, place, leaf, proof), place == at && k == at; got != want {
						t.Errorf("%d leaves, the proof of %d, place %d, leaf %d: %t", n, at, place, k, got)
					}
				}
			}
		}
	}
}

// P3.3: leaves of nothing are proved, too, and leaves that are alike each at
// its own place.
func TestCheckAlike(t *testing.T) {
	for n := 1; n <= 20; n++ {
		l := make([]string, n)
		root := tree.Root(l)
		for at := range n {
			proof, _ := tree.Prove(l, at)
			for place := range n {
				want := len(proof) == deepOf(n, place) && rootBy(n, place, "", proof) == root
				if place == at && !want {
					t.Errorf("%d leaves of nothing, place %d: the test's own root isn't the root", n, at)
				}
				if got := tree.Check(root, n, place, "", proof); got != want {
					t.Errorf("%d leaves of nothing, the proof of %d, place %d: %t", n, at, place, got)
				}
			}
		}
	}
}

// refused fails if Check says yes.
func refused(t *testing.T, why string, root api.Hash, n, at int, leaf string, proof []api.Hash) {
	t.Helper()
	if tree.Check(root, n, at, leaf, proof) {
		t.Errorf("%s: Check says yes of place %d of %d, %d sums", why, at, n, len(proof))
	}
}

// P3.2, Check: proofs with something wrong.
func TestCheckWrong(t *testing.T) {
	for n := 1; n <= 33; n++ {
		l := leaves(n)
		root := tree.Root(l)
		for at, leaf := range l {
			proof, _ := tree.Prove(l, at)
			if !tree.Check(root, n, at, leaf, proof) {
				t.Fatalf("place %d of %d: refused", at, n)
			}
			for _, other := range []string{leaf + "\x00", "\x00" + leaf, "leaf", "leaf 99"} {
				refused(t, "another leaf", root, n, at, other, proof)
			}
			for _, place := range []int{at - 1, at + 1, at ^ 1, -at - 1, n, n + 1, -1, math.MinInt, math.MaxInt} {
				refused(t, "another place", root, n, place, leaf, proof)
			}
			for _, number := range []int{n - 1, n + 1, 2 * n, n + 128, 0, -1, -n, 1 << 30, 1<<30 + 1, math.MinInt, math.MaxInt} {
				refused(t, "another number of leaves", root, number, at, leaf, proof)
			}
			for _, other := range []api.Hash{{}, tree.Top(l), tree.Root(l[:n-1]), tree.Root(append(leaves(n), ""))} {
				refused(t, "another root", other, n, at, leaf, proof)
			}
			wrongSums(t, root, n, at, leaf, proof)
		}
	}
}

// wrongSums tries proofs with one sum too few, too many, or changed.
func wrongSums(t *testing.T, root api.Hash, n, at int, leaf string, proof []api.Hash) {
	t.Helper()
	for i := range len(proof) + 1 {
		for _, more := range []api.Hash{{}, root, tree.Leaf(leaf), tree.Top(nil)} {
			refused(t, "one sum more", root, n, at, leaf, slices.Insert(slices.Clone(proof), i, more))
		}
	}
	for i := range proof {
		refused(t, "one sum fewer", root, n, at, leaf, slices.Delete(slices.Clone(proof), i, i+1))
		for _, place := range []int{0, 15, 31} {
			other := slices.Clone(proof)
			other[i][place] ^= 1
			refused(t, "another sum", root, n, at, leaf, other)
		}
	}
	if len(proof) > 0 {
		refused(t, "no sums", root, n, at, leaf, nil)
	}
	if len(proof) > 1 {
		turned := slices.Clone(proof)
		slices.Reverse(turned)
		refused(t, "sums from the top on down", root, n, at, leaf, turned)
	}
}

// P3.2, Check: a root of which every bit counts.
func TestCheckWholeRoot(t *testing.T) {
	l := leaves(5)
	root := tree.Root(l)
	proof, _ := tree.Prove(l, 3)
	for i := range root {
		for bit := range 8 {
			other := root
			other[i] ^= 1 << bit
			refused(t, "one bit of the root", other, 5, 3, l[3], proof)
		}
	}
}

// P3.2, Check: nothing but the number that is summed up tells 3 leaves from 4,
// where the way is the same one; the number has to be n.
func TestCheckNumber(t *testing.T) {
	proof := sums(2)
	for _, n := range []int{3, 4} {
		for _, told := range []int{3, 4} {
			root := rootBy(n, 0, "a", proof)
			if got := tree.Check(root, told, 0, "a", proof); got != (n == told) {
				t.Errorf("%d leaves told as %d: %t", n, told, got)
			}
		}
	}
}

// P3.2, Check: whatever the sums are, it is the root of them that counts, up
// to 2^30 leaves; one sum more or fewer never does.
func TestCheckMost(t *testing.T) {
	const most = 1 << 30
	for _, n := range []int{1, 2, 3, 127, 128, 129, 1 << 16, 1<<16 + 1, most/2 - 1, most / 2, most/2 + 1, most - 1, most} {
		for _, at := range []int{0, 1, 2, n / 3, n / 2, n - 2, n - 1} {
			if at < 0 || at >= n {
				continue
			}
			proof := sums(deepOf(n, at))
			root := rootBy(n, at, "leaf", proof)
			if !tree.Check(root, n, at, "leaf", proof) {
				t.Errorf("place %d of %d: refused", at, n)
			}
			refused(t, "another leaf", root, n, at, "Leaf", proof)
			refused(t, "one sum more", root, n, at, "leaf", sums(len(proof)+1))
			refused(t, "one more leaf", root, n+1, at, "leaf", proof)
			if len(proof) > 0 {
				refused(t, "one sum fewer", root, n, at, "leaf", proof[1:])
				refused(t, "one sum fewer", root, n, at, "leaf", proof[:len(proof)-1])
			}
		}
	}
}

// P3.2, Check: above 2^30 leaves nothing is proved, though the sums would be
// right, or there were none, as Deep tells.
func TestCheckTooMany(t *testing.T) {
	for _, n := range []int{1<<30 + 1, 1<<30 + 2, 1 << 31, 1<<31 + 1, 1 << 32, 1 << 62, math.MaxInt} {
		for _, at := range []int{0, 1, n / 2, n - 1} {
			proof := sums(deepOf(n, at))
			refused(t, "the whole way", rootBy(n, at, "leaf", proof), n, at, "leaf", proof)
			refused(t, "no sums", rootOf(n, leafOf("leaf")), n, at, "leaf", nil)
		}
	}
}

// P3.2, Check: a place that isn't there isn't proved by no sums, though Deep
// tells 0 of it.
func TestCheckNowhere(t *testing.T) {
	for _, n := range []int{math.MinInt, -1 << 30, -1, 0, 1, 2, 3} {
		for _, at := range []int{math.MinInt, -2, -1, 0, 1, 2, 3, 4, 1 << 30, math.MaxInt} {
			if 0 <= at && at < n {
				continue
			}
			for _, root := range []api.Hash{{}, rootOf(n, leafOf("")), rootOf(n, sumOf("\x02")), tree.Root(nil), tree.Root([]string{""})} {
				refused(t, "nowhere", root, n, at, "", nil)
				refused(t, "nowhere", root, n, at, "", []api.Hash{})
			}
		}
	}
}

// P3.3: who shows an inner part's sums as a leaf, or a leaf's sum as an inner
// part's, proves nothing.
func TestCheckForged(t *testing.T) {
	l := []string{"a", "b", "c", "d"}
	root := tree.Root(l)
	a, b := tree.Leaf("a"), tree.Leaf("b")
	right := tree.Node(tree.Leaf("c"), tree.Leaf("d"))
	for _, leaf := range []string{string(a[:]) + string(b[:]), "\x01" + string(a[:]) + string(b[:])} {
		for n := 1; n <= 5; n++ {
			for at := range n {
				refused(t, "a part as a leaf", root, n, at, leaf, []api.Hash{right})
			}
		}
	}
	top := tree.Top(l)
	refused(t, "the top as a leaf", root, 1, 0, string(top[:]), nil)
	refused(t, "the root as a leaf", root, 1, 0, string(root[:]), nil)
}
