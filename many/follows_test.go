package many_test

import (
	"slices"
	"testing"

	"modillion/api"
	"modillion/many"
	"modillion/tree"
)

// fromLeft is chapter 3's proof of the at-th of n leaves, which goes from the
// leaf on up, from the left to the right.
func fromLeft(n, at int, proof []api.Hash) []api.Hash {
	var l []api.Hash
	for ; n > 1; n, at = n/2+n%2, at/2 {
		if at%2 == 1 {
			l, proof = slices.Insert(l, 0, proof[0]), proof[1:]
		} else if at+1 < n {
			l, proof = append(l, proof[0]), proof[1:]
		}
	}
	return l
}

// P4.3: of one leaf the proof has chapter 3's sums, and proves what it proves:
// of that leaf and of others, of that root and of others.
func TestOneLeaf(t *testing.T) {
	for n := 1; n <= 20; n++ {
		l := leaves(n)
		roots := []api.Hash{tree.Root(l), tree.Root(leaves(n + 1)), tree.Top(l), {}}
		for place := range n {
			at := []int{place}
			alone, _ := tree.Prove(l, place)
			proof, e := many.Prove(l, at)
			if e != api.OK || !slices.Equal(proof, fromLeft(n, place, alone)) {
				t.Errorf("place %d of %d: not the sums of chapter 3", place, n)
			}
			if size := many.Size(n, at); size != tree.Deep(n, place) {
				t.Errorf("place %d of %d: %d sums, in chapter 3 %d", place, n, size, tree.Deep(n, place))
			}
			for _, root := range roots {
				for _, leaf := range append(l, "other") {
					if got, want := many.Check(root, n, at, []string{leaf}, proof), tree.Check(root, n, place, leaf, alone); got != want {
						t.Errorf("place %d of %d, leaf %q: %t, in chapter 3 %t", place, n, leaf, got, want)
					}
				}
			}
		}
	}
}

// P4.3: whatever the sums are, of one leaf both chapters say the same.
func TestOneLeafAnySums(t *testing.T) {
	for _, n := range []int{1, 2, 3, 4, 5, 8, 9, 100, 127, 128, 129, most - 1, most} {
		for _, place := range []int{0, 1, n / 3, n / 2, n - 2, n - 1} {
			if place < 0 || place >= n {
				continue
			}
			at, alone := []int{place}, sums(tree.Deep(n, place))
			proof := fromLeft(n, place, alone)
			root := rootBy(n, at, []string{"leaf"}, proof)
			for _, leaf := range []string{"leaf", "Leaf", ""} {
				if got, want := many.Check(root, n, at, []string{leaf}, proof), tree.Check(root, n, place, leaf, alone); got != want || got != (leaf == "leaf") {
					t.Errorf("place %d of %d, leaf %q: %t, in chapter 3 %t", place, n, leaf, got, want)
				}
			}
		}
	}
}

// P4.3: of all leaves it has no sums, and it is their root alone that is proved.
func TestAllLeaves(t *testing.T) {
	for n := 1; n <= 70; n++ {
		l, at := leaves(n), allOf(n)
		proof, e := many.Prove(l, at)
		if e != api.OK || len(proof) != 0 || many.Size(n, at) != 0 {
			t.Errorf("all of %d: %d sums, %d told, error %d", n, len(proof), many.Size(n, at), e)
		}
		accepted(t, "all", tree.Root(l), n, at, l, nil)
		accepted(t, "all", tree.Root(l), n, at, l, []api.Hash{})
		refused(t, "all, and the top", tree.Root(l), n, at, l, []api.Hash{tree.Top(l)})
		for i := range l {
			other := slices.Clone(l)
			other[i] += "z"
			refused(t, "all, one changed", tree.Root(l), n, at, other, nil)
			accepted(t, "all, another root", tree.Root(other), n, at, other, nil)
		}
	}
}
