package many_test

import (
	"math"
	"slices"
	"testing"

	"modillion/api"
	"modillion/many"
	"modillion/tree"
)

const (
	most   = 1 << 16
	minInt = math.MinInt
	maxInt = math.MaxInt
)

// numbers is the numbers of leaves of which some ways to ask are tried.
func numbers() []int {
	return []int{0, 1, 2, 3, 4, 5, 6, 7, 8, 9, 15, 16, 17, 31, 32, 33, 63, 64, 65, 127, 128, 129, 255, 256, 257, 1000}
}

// P4.1, Rises: each place that is there, once, in order.
func TestRises(t *testing.T) {
	for n := range 10 {
		for _, at := range setsOf(n) {
			if !many.Rises(n, at) {
				t.Errorf("Rises(%d, %v): false", n, at)
			}
			if len(at) > 0 && many.Rises(at[len(at)-1], at) {
				t.Errorf("Rises(%d, %v): true", at[len(at)-1], at)
			}
		}
		for _, at := range wrongPlaces(n) {
			if many.Rises(n, at) {
				t.Errorf("Rises(%d, %v): true", n, at)
			}
		}
	}
}

// P4.1, Rises: whatever places there are of few kinds, in whatever order.
func TestRisesEachRow(t *testing.T) {
	kinds := []int{-1, 0, 1, 2, 3}
	for n := -1; n <= 3; n++ {
		for _, a := range kinds {
			for _, b := range kinds {
				for _, c := range kinds {
					want := 0 <= a && a < b && b < c && c < n
					if got := many.Rises(n, []int{a, b, c}); got != want {
						t.Errorf("Rises(%d, %d %d %d): %t", n, a, b, c, got)
					}
				}
			}
		}
	}
}

// P4.1, Rises: no place needs no leaf; and there is no number of leaves that is
// too great.
func TestRisesEdges(t *testing.T) {
	for _, n := range []int{minInt, -1, 0, 1, most, most + 1, 1 << 30, maxInt} {
		if !many.Rises(n, nil) || !many.Rises(n, []int{}) {
			t.Errorf("no place of %d: false", n)
		}
	}
	for _, n := range []int{minInt, -2, -1, 0} {
		for _, place := range []int{minInt, -2, -1, 0, 1, maxInt} {
			if many.Rises(n, []int{place}) {
				t.Errorf("the place %d of %d: true", place, n)
			}
		}
	}
	for _, n := range []int{most, most + 1, 1 << 40, maxInt} {
		if !many.Rises(n, []int{0, 5, n - 1}) || many.Rises(n, []int{0, 5, n}) || many.Rises(n, []int{n - 1, n - 1}) {
			t.Errorf("places of %d", n)
		}
	}
}

// proved fails unless Prove and Size are as they should be.
func proved(t *testing.T, l []string, at []int) {
	t.Helper()
	want := proofOf(l, at)
	got, e := many.Prove(l, at)
	if e != api.OK || !slices.Equal(got, want) {
		t.Errorf("Prove(%d leaves, %v): %d sums, error %d, not %d sums", len(l), at, len(got), e, len(want))
	}
	if size := many.Size(len(l), at); size != len(want) {
		t.Errorf("Size(%d, %v): %d, not %d", len(l), at, size, len(want))
	}
}

// P4.1, Prove and Size: whatever is asked for of few leaves.
func TestProve(t *testing.T) {
	for n := range 11 {
		for _, at := range setsOf(n) {
			proved(t, leaves(n), at)
			proved(t, make([]string, n), at)
		}
	}
}

// P4.1, Prove and Size: of more leaves.
func TestProveMore(t *testing.T) {
	for _, n := range numbers() {
		for _, at := range someOf(n) {
			proved(t, leaves(n), at)
		}
	}
}

// P4.1, Prove: the chapter's example, and others, sum by sum.
func TestProveFew(t *testing.T) {
	a, b, c, d, e := tree.Leaf("a"), tree.Leaf("b"), tree.Leaf("c"), tree.Leaf("d"), tree.Leaf("")
	two := tree.Node
	l := []string{"a", "b", "c", "d", ""}
	for _, x := range []struct {
		n    int
		at   []int
		want []api.Hash
	}{
		{0, nil, []api.Hash{sumOf("\x02")}},
		{1, nil, []api.Hash{a}},
		{1, []int{0}, nil},
		{2, nil, []api.Hash{two(a, b)}},
		{2, []int{0}, []api.Hash{b}},
		{2, []int{1}, []api.Hash{a}},
		{2, []int{0, 1}, nil},
		{3, []int{0}, []api.Hash{b, c}},
		{3, []int{1}, []api.Hash{a, c}},
		{3, []int{2}, []api.Hash{two(a, b)}},
		{3, []int{0, 2}, []api.Hash{b}},
		{4, []int{0, 3}, []api.Hash{b, c}},
		{4, []int{3}, []api.Hash{two(a, b), c}},
		{4, []int{0, 1}, []api.Hash{two(c, d)}},
		{5, nil, []api.Hash{two(two(two(a, b), two(c, d)), e)}},
		{5, []int{2}, []api.Hash{two(a, b), d, e}},
		{5, []int{4}, []api.Hash{two(two(a, b), two(c, d))}},
		{5, []int{1, 4}, []api.Hash{a, two(c, d)}},
	} {
		if got, e := many.Prove(l[:x.n], x.at); e != api.OK || !slices.Equal(got, x.want) {
			t.Errorf("%v of %d: %x, error %d", x.at, x.n, got, e)
		}
	}
}

// P4.1 and P1: places that may not be asked for, and nothing beside the error.
func TestProveWrong(t *testing.T) {
	for _, n := range numbers() {
		room := leaves(n + 4)
		for _, at := range wrongPlaces(n) {
			if got, e := many.Prove(room[:n], at); e != api.ErrManyIndex || len(got) != 0 {
				t.Errorf("Prove(%d leaves, %v): %d sums, error %d", n, at, len(got), e)
			}
			if got := many.Size(n, at); got != 0 {
				t.Errorf("Size(%d, %v): %d", n, at, got)
			}
		}
	}
	if got, e := many.Prove(nil, []int{0}); e != api.ErrManyIndex || len(got) != 0 {
		t.Errorf("Prove(nil, 0): %d sums, error %d", len(got), e)
	}
}

// P4.1: nil and empty are one.
func TestProveNothing(t *testing.T) {
	for _, l := range [][]string{nil, {}} {
		for _, at := range [][]int{nil, {}} {
			proved(t, l, at)
		}
	}
	if many.Size(7, []int{}) != 1 || many.Size(7, nil) != 1 {
		t.Error("no place of 7: not one sum")
	}
}

// P4.1, Size: up to 2^16 leaves, told of alone.
func TestSizeMost(t *testing.T) {
	for _, n := range []int{most/2 - 1, most / 2, most/2 + 1, most - 1, most} {
		for _, at := range someOf(n) {
			if got, want := many.Size(n, at), sizeOf(n, at); got != want {
				t.Errorf("Size(%d, %d places): %d, not %d", n, len(at), got, want)
			}
		}
	}
	for _, x := range []struct {
		n    int
		at   []int
		want int
	}{
		{most, nil, 1}, {most, []int{5}, 16}, {most, []int{most - 1}, 16}, {most, []int{0, most - 1}, 30},
		{most, []int{most}, 0}, {most - 1, []int{most - 2}, 15}, {most/2 + 1, []int{most / 2}, 1},
	} {
		if got := many.Size(x.n, x.at); got != x.want {
			t.Errorf("Size(%d, %v): %d, not %d", x.n, x.at, got, x.want)
		}
	}
}

// P4.1, Size: 0 below 0 and above 2^16 leaves, though the places rise.
func TestSizeNone(t *testing.T) {
	for _, n := range []int{minInt, -most, -2, -1, most + 1, most + 2, 2 * most, 1 << 30, 1 << 32, 1<<32 + 4, maxInt} {
		for _, at := range [][]int{nil, {}, {0}, {0, 3}, {5}, {most}, {n - 1}, {-1}, {minInt}} {
			if got := many.Size(n, at); got != 0 {
				t.Errorf("Size(%d, %v): %d", n, at, got)
			}
		}
	}
}

// P4.1, Prove: leaves that are there are never too many.
func TestProveAboveMost(t *testing.T) {
	l := leaves(most + 1)
	for _, at := range [][]int{nil, {0}, {3, most}} {
		want := proofOf(l, at)
		if got, e := many.Prove(l, at); e != api.OK || !slices.Equal(got, want) {
			t.Errorf("Prove(%d leaves, %v): %d sums, error %d, not %d sums", len(l), at, len(got), e, len(want))
		}
	}
	if got, e := many.Prove(l, []int{3, most + 1}); e != api.ErrManyIndex || len(got) != 0 {
		t.Errorf("Prove(%d leaves, %d): %d sums, error %d", len(l), most+1, len(got), e)
	}
}

// The document's rules: what is handed in stays as it was, what stands in its
// spare room doesn't matter, and what is handed out is new memory.
func TestListsApart(t *testing.T) {
	for n := 1; n < 20; n++ {
		room := leaves(n + 20)
		l, kept := room[:n], slices.Clone(room)
		root := tree.Root(l)
		for _, at := range someOf(n) {
			wide := append(slices.Clone(at), 0, n+5, -1)
			places, was := wide[:len(at)], slices.Clone(wide)
			proof, _ := many.Prove(l, places)
			again, _ := many.Prove(slices.Clone(l), at)
			if !slices.Equal(proof, again) || many.Size(n, places) != len(again) || !many.Rises(n, places) {
				t.Errorf("%d leaves, %v: the spare room matters", n, at)
			}
			for i := range proof {
				proof[i] = api.Hash{}
			}
			sums := append(slices.Clone(again), root, root)
			if !many.Check(root, n, places, those(l, at), sums[:len(again)]) {
				t.Errorf("%d leaves, %v: two proofs share memory, or the spare room matters", n, at)
			}
			if !slices.Equal(wide, was) || !slices.Equal(sums, append(slices.Clone(again), root, root)) {
				t.Errorf("%d leaves, %v: places or sums were changed", n, at)
			}
		}
		if !slices.Equal(room, kept) {
			t.Errorf("%d leaves were changed", n)
		}
	}
}
