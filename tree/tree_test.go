package tree_test

import (
	"math"
	"slices"
	"strings"
	"testing"

	"modillion/api"
	"modillion/hash"
	"modillion/tree"
)

// P3.1, Leaf: the sum of the byte 0 and the leaf, whatever its bytes are.
func TestLeaf(t *testing.T) {
	for _, s := range []string{"", "a", "ab", "\x00", "\x00a", "\x01", "\xff\x80", "é", strings.Repeat("z", 62), strings.Repeat("z", 63), strings.Repeat("z", 70000)} {
		if got := tree.Leaf(s); got != sumOf("\x00", s) {
			t.Errorf("Leaf(%.10q, %d bytes): %x", s, len(s), got)
		}
	}
	if tree.Leaf("") == tree.Leaf("\x00") {
		t.Error("a leaf of nothing and one of a nought have one sum")
	}
	known := "022a6979e6dab7aa5ae4c3e5e45f7e977112a7e63593820dbec1ec738a24f93c" // of 0 a
	if got := hash.Text(tree.Leaf("a")); got != known {
		t.Errorf("Leaf(a): %s", got)
	}
}

// P3.1, Node: the sum of the byte 1 and both, in their order.
func TestNode(t *testing.T) {
	l := append(sums(4), api.Hash{})
	for _, a := range l {
		for _, b := range l {
			if got := tree.Node(a, b); got != sumOf("\x01", string(a[:]), string(b[:])) {
				t.Errorf("Node(%x, %x): %x", a, b, got)
			}
			if a != b && tree.Node(a, b) == tree.Node(b, a) {
				t.Errorf("%x and %x have one sum in both orders", a, b)
			}
		}
	}
}

// P3.1, Half: the greatest one of 1, 2, 4, 8 and so on that is less than n.
func TestHalf(t *testing.T) {
	for _, n := range []int{1, 0, -1, -2, -3, -1 << 30, math.MinInt + 1, math.MinInt} {
		if got := tree.Half(n); got != 0 {
			t.Errorf("Half(%d): %d", n, got)
		}
	}
	want := 1
	for n := 2; n < 5000; n++ {
		if 2*want < n {
			want *= 2
		}
		if got := tree.Half(n); got != want {
			t.Errorf("Half(%d): %d, not %d", n, got, want)
		}
	}
	for bit := 2; bit < 63; bit++ {
		n := 1 << bit
		if a, b, c := tree.Half(n-1), tree.Half(n), tree.Half(n+1); a != n/2 || b != n/2 || c != n {
			t.Errorf("Half of 2^%d, and one less and more: %d %d %d", bit, b, a, c)
		}
	}
	if got := tree.Half(math.MaxInt); got != 1<<62 {
		t.Errorf("Half(%d): %d", math.MaxInt, got)
	}
}

// P3.1, Top: how few leaves are put together, sum by sum.
func TestTopOfFew(t *testing.T) {
	a, b, c, d, e := tree.Leaf("a"), tree.Leaf("b"), tree.Leaf("c"), tree.Leaf("d"), tree.Leaf("")
	two := tree.Node
	for _, x := range []struct {
		l    []string
		want api.Hash
	}{
		{nil, sumOf("\x02")},
		{[]string{}, sumOf("\x02")},
		{[]string{""}, e},
		{[]string{"a"}, a},
		{[]string{"a", "b"}, two(a, b)},
		{[]string{"b", "a"}, two(b, a)},
		{[]string{"", ""}, two(e, e)},
		{[]string{"a", "b", "c"}, two(two(a, b), c)},
		{[]string{"a", "b", "c", "d"}, two(two(a, b), two(c, d))},
		{[]string{"a", "b", "c", "d", ""}, two(two(two(a, b), two(c, d)), e)},
		{[]string{"a", "b", "c", "d", "", "a"}, two(two(two(a, b), two(c, d)), two(e, a))},
		{[]string{"a", "b", "c", "d", "", "a", "b"}, two(two(two(a, b), two(c, d)), two(two(e, a), b))},
	} {
		if got := tree.Top(x.l); got != x.want {
			t.Errorf("Top(%q): %x", x.l, got)
		}
	}
}

// P3.1, Top and Root: of each number of leaves, those where the number that is
// summed up has more bytes (128, 16384) too.
func TestTopAndRoot(t *testing.T) {
	numbers := []int{255, 256, 257, 300, 1023, 1024, 1025, 16383, 16384, 16385}
	for n := range 140 {
		numbers = append(numbers, n)
	}
	for _, n := range numbers {
		l := leaves(n)
		if got := tree.Top(l); got != topOf(l) {
			t.Errorf("Top(%d leaves): %x", n, got)
		}
		if got := tree.Root(l); got != rootOf(n, topOf(l)) {
			t.Errorf("Root(%d leaves): %x", n, got)
		}
	}
	if tree.Root(nil) != tree.Root([]string{}) || tree.Root(nil) != rootOf(0, sumOf("\x02")) {
		t.Error("Root of no leaves")
	}
}

// P3.1, Top and Root: no leaf, no order and no number of leaves is passed over.
func TestRootTellsAll(t *testing.T) {
	seen := map[api.Hash]int{}
	for n := range 40 {
		all := strings.Split(strings.Repeat("x ", n), " ")[:n]
		lists := [][]string{all}
		for i := range all {
			other := slices.Clone(all)
			other[i] = "y"
			lists = append(lists, other)
		}
		for _, l := range lists {
			root := tree.Root(l)
			if was, ok := seen[root]; ok {
				t.Errorf("%q has the root of another list, of %d", l, was)
			}
			seen[root] = n
		}
	}
}

// P3.1 and P3.3: no leaf passes for two, for none or for a root, whatever its
// bytes are.
func TestKindsApart(t *testing.T) {
	a, b := tree.Leaf("a"), tree.Leaf("b")
	both := string(a[:]) + string(b[:])
	for _, s := range []string{both, "\x00" + both, "\x01" + both} {
		if tree.Top([]string{s}) == tree.Top([]string{"a", "b"}) {
			t.Errorf("the leaf %q has the top of two", s)
		}
	}
	for _, s := range []string{"", "\x02"} {
		if tree.Top([]string{s}) == tree.Top(nil) {
			t.Errorf("the leaf %q has the top of none", s)
		}
	}
	for _, l := range [][]string{nil, {"a"}, {"a", "b"}} {
		if tree.Root(l) == tree.Top(l) {
			t.Errorf("%q: the root is the top", l)
		}
	}
}

// P3.1, Prove and Deep: of each place of each number of leaves.
func TestProve(t *testing.T) {
	for n := 1; n <= 70; n++ {
		l := leaves(n)
		for at := range n {
			want := proofOf(l, at)
			got, e := tree.Prove(l, at)
			if e != api.OK || !slices.Equal(got, want) {
				t.Errorf("Prove(%d leaves, %d): %d sums, error %d, not %d sums", n, at, len(got), e, len(want))
			}
			if deep := tree.Deep(n, at); deep != len(want) {
				t.Errorf("Deep(%d, %d): %d, not %d", n, at, deep, len(want))
			}
		}
	}
}

// P3.1, Prove: the chapter's example, and how many sums few leaves' proofs have.
func TestProveFew(t *testing.T) {
	a, b, c := tree.Leaf("a"), tree.Leaf("b"), tree.Leaf("c")
	l := []string{"a", "b", "c"}
	for at, want := range [][]api.Hash{{b, c}, {a, c}, {tree.Node(a, b)}} {
		if got, e := tree.Prove(l, at); e != api.OK || !slices.Equal(got, want) {
			t.Errorf("place %d of three: %x, error %d", at, got, e)
		}
	}
	if got, e := tree.Prove([]string{""}, 0); e != api.OK || len(got) != 0 {
		t.Errorf("an only leaf: %x, error %d", got, e)
	}
}

// P3.1 and P1, Prove: a place that isn't there, and nothing beside the error.
func TestProveNowhere(t *testing.T) {
	for _, n := range []int{0, 1, 2, 3, 4, 5, 8, 9} {
		room := leaves(n + 4)
		for _, at := range []int{-1, -2, -n, -n - 1, math.MinInt, n, n + 1, n + 3, 2 * n, 1 << 30, math.MaxInt} {
			if 0 <= at && at < n {
				continue
			}
			if got, e := tree.Prove(room[:n], at); e != api.ErrTreeIndex || len(got) != 0 {
				t.Errorf("Prove(%d leaves, %d): %x, error %d", n, at, got, e)
			}
		}
	}
	if got, e := tree.Prove(nil, 0); e != api.ErrTreeIndex || len(got) != 0 {
		t.Errorf("Prove(nil, 0): %x, error %d", got, e)
	}
}

// P3.1, Deep: the greatest numbers of leaves, told of alone.
func TestDeepMost(t *testing.T) {
	const most = 1 << 30
	for _, n := range []int{most, most - 1, most - 2, most/2 + 1, most / 2, most/2 - 1, 0x2aaaaaab} {
		for _, at := range []int{0, 1, 2, n / 3, n / 2, n/2 - 1, n/2 + 1, n - 3, n - 2, n - 1} {
			if got, want := tree.Deep(n, at), deepOf(n, at); got != want {
				t.Errorf("Deep(%d, %d): %d, not %d", n, at, got, want)
			}
		}
	}
	for _, x := range []struct{ n, at, want int }{
		{most, 0, 30}, {most, 5, 30}, {most, most - 1, 30},
		{most - 1, 0, 30}, {most - 1, most - 2, 29},
		{most/2 + 1, 0, 30}, {most/2 + 1, most / 2, 1},
		{1, 0, 0}, {2, 0, 1}, {2, 1, 1}, {3, 0, 2}, {3, 2, 1}, {5, 4, 1},
	} {
		if got := tree.Deep(x.n, x.at); got != x.want {
			t.Errorf("Deep(%d, %d): %d, not %d", x.n, x.at, got, x.want)
		}
	}
}

// P3.1, Deep: 0, where there is no such leaf, and above 2^30 leaves.
func TestDeepNone(t *testing.T) {
	for _, n := range []int{0, -1, -2, -1 << 30, math.MinInt, 1<<30 + 1, 1<<30 + 2, 1 << 31, 1<<31 + 1, 1 << 62, math.MaxInt} {
		for _, at := range []int{0, 1, 2, -1, 1 << 29, 1 << 30, n - 1, n, math.MinInt, math.MaxInt} {
			if got := tree.Deep(n, at); got != 0 {
				t.Errorf("Deep(%d, %d): %d", n, at, got)
			}
		}
	}
	for _, n := range []int{1, 2, 3, 4, 5, 64, 1<<30 - 1, 1 << 30} {
		for _, at := range []int{-1, -2, -n, n, n + 1, 2 * n, 1 << 31, math.MinInt, math.MaxInt} {
			if got := tree.Deep(n, at); got != 0 {
				t.Errorf("Deep(%d, %d): %d", n, at, got)
			}
		}
	}
}

// The document's rules: what is handed in stays as it was, what stands in its
// spare room doesn't matter, and what is handed out is new memory.
func TestListsApart(t *testing.T) {
	for n := 1; n < 20; n++ {
		room := leaves(n + 20)
		l, alone := room[:n], slices.Clone(room[:n:n])
		kept := slices.Clone(room)
		root := tree.Root(alone)
		if tree.Root(l) != root || tree.Top(l) != tree.Top(alone) {
			t.Errorf("%d leaves: the spare room matters", n)
		}
		for at := range n {
			proof, _ := tree.Prove(l, at)
			again, _ := tree.Prove(alone, at)
			for i := range proof {
				proof[i] = api.Hash{}
			}
			if !tree.Check(root, n, at, l[at], again) {
				t.Errorf("%d leaves, place %d: two proofs share memory, or the spare room matters", n, at)
			}
		}
		if !slices.Equal(room, kept) {
			t.Errorf("%d leaves were changed", n)
		}
	}
}
