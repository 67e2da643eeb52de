package commit_test

import (
	"math"
	"math/rand/v2"
	"slices"
	"testing"

	"modillion/api"
	"modillion/batch"
	"modillion/commit"
	"modillion/state"
)

// someVertices is n of them at random, that have bytes or not, with some room
// behind them.
func someVertices(r *rand.Rand, n int) []api.Vertex {
	var l []api.Vertex
	for range n + 2 {
		l = append(l, api.Vertex{ID: r.IntN(66), Value: r.Int64N(99) - 49, Active: r.IntN(2) == 0, Has: r.IntN(4) > 0, In: r.Int64N(9)})
	}
	return l[:n]
}

// someMsgs is n messages at random, that are a batch or not, with some room
// behind them.
func someMsgs(r *rand.Rand, n int) []api.Msg {
	var l []api.Msg
	for range n + 2 {
		l = append(l, api.Msg{From: r.IntN(66) - 1, To: r.IntN(66) - 1, Val: r.Int64N(99) - 49})
	}
	return l[:n]
}

// someOut is what goes to n workers, at random, with some room behind it.
func someOut(r *rand.Rand, n int) [][]api.Msg {
	var out [][]api.Msg
	for range n + 2 {
		out = append(out, someMsgs(r, r.IntN(5)))
	}
	return out[:n]
}

// copied is all of what goes to workers, the spare room too, in memory of its own.
func copied(out [][]api.Msg) [][]api.Msg {
	var all [][]api.Msg
	for _, l := range out[:cap(out)] {
		all = append(all, slices.Clone(l[:cap(l)]))
	}
	return all
}

// madeBy is what Make answers by the chapter's words.
func madeBy(w, step int, l []api.Vertex, out [][]api.Msg) api.Commit {
	c := api.Commit{Worker: w, Step: step, Root: state.Root(l), Batches: make([]api.Hash, len(out))}
	for i := range out {
		c.Batches[i] = batch.Root(out[i])
	}
	return c
}

// makeIs holds Make to the chapter's words, and Keeps, Put and Get to what it made.
func makeIs(t *testing.T, w, step int, l []api.Vertex, out [][]api.Msg) api.Commit {
	t.Helper()
	want := madeBy(w, step, l, out)
	c, e := commit.Make(w, step, l, out)
	if !alike(c, want) || e != api.OK {
		t.Errorf("%d, %d, %v, %v: %v, %d, not %v", w, step, l, out, c, e, want)
	}
	if !commit.Keeps(c, l, out) {
		t.Errorf("%d, %d, %v, %v: not kept", w, step, l, out)
	}
	putIs(t, want, bytes(want))
	return want
}

// makeErrs holds Make to ErrCommitForm, with the zero commitment beside it (P1).
func makeErrs(t *testing.T, w, step int, l []api.Vertex, out [][]api.Msg) {
	t.Helper()
	if c, e := commit.Make(w, step, l, out); !zero(c) || e != api.ErrCommitForm {
		t.Errorf("%d, %d, %d vertices, %d batches: %v, %d", w, step, len(l), len(out), c, e)
	}
}

// P12.2, Make: the chapter's example, whose roots are those of nothing.
func TestMakeNothing(t *testing.T) {
	none := hash(nothing())
	for _, l := range [][]api.Vertex{nil, {}, someVertices(rand.New(rand.NewPCG(12, 7)), 0)} {
		for _, out := range [][][]api.Msg{{nil}, {{}}, {nil, {}, nil}, make([][]api.Msg, 64)} {
			c := makeIs(t, 1, 2, l, out)
			if c.Worker != 1 || c.Step != 2 || c.Root != none || !slices.Equal(c.Batches, slices.Repeat([]api.Hash{none}, len(out))) {
				t.Errorf("%v", c)
			}
		}
	}
}

// P12.2, Make: some vertices, and what goes to several workers.
func TestMakeSome(t *testing.T) {
	l := []api.Vertex{{ID: 4, Value: 9}, {ID: 7, Value: -1, Active: true, Has: true, In: 5}}
	out := [][]api.Msg{nil, {{From: 4, To: 2, Val: 1}, {From: 7, To: 1, Val: 8}}, {{From: 4, To: 3, Val: -1}}}
	c := makeIs(t, 3, 1, l, out)
	if c.Root != state.Root(l) || c.Batches[0] != batch.Root(nil) || c.Batches[1] != batch.Root(out[1]) || c.Batches[2] != batch.Root(out[2]) {
		t.Errorf("%v", c)
	}
	for _, n := range []int{0, 63} {
		makeIs(t, n, 5, l, out)
		makeIs(t, 5, n, l, out)
		makeIs(t, n, n, l, out[:1])
	}
	r := rand.New(rand.NewPCG(12, 8))
	for n := range 64 {
		makeIs(t, r.IntN(64), r.IntN(64), someVertices(r, r.IntN(70)), someOut(r, n+1))
	}
	makeIs(t, 0, 0, someVertices(r, 300), [][]api.Msg{someMsgs(r, 600)}) // more than a graph has are leaves as well
}

// P12.2, Make: ErrCommitForm of a Worker, a Step and a number of Batches that
// may not be.
func TestMakeWrong(t *testing.T) {
	r := rand.New(rand.NewPCG(12, 9))
	l, out := someVertices(r, 3), someOut(r, 200)
	for _, n := range []int{-1, -2, -64, -256, -1 << 32, math.MinInt, 64, 65, 128, 256, 1 << 32, 1<<32 + 1, math.MaxInt} {
		for _, batches := range []int{0, 1, 2, 64, 65} {
			makeErrs(t, n, 0, l, out[:batches])
			makeErrs(t, 0, n, l, out[:batches])
			makeErrs(t, 63, n, nil, out[:batches])
			makeErrs(t, n, n, nil, out[:batches])
		}
	}
	makeErrs(t, 0, 0, nil, nil)
	makeErrs(t, 0, 0, l, [][]api.Msg{})
	for _, batches := range []int{0, 65, 66, 128, 200} {
		makeErrs(t, 1, 2, l, out[:batches])
		makeErrs(t, 1, 2, nil, make([][]api.Msg, batches))
	}
}

// P12.2, Keeps: of what Make made, but for one thing.
func TestKeepsWrong(t *testing.T) {
	l := []api.Vertex{{ID: 4, Value: 9}, {ID: 7, Value: -1, Active: true}}
	a, b := []api.Msg{{From: 4, To: 2, Val: 1}, {From: 7, To: 1, Val: 8}}, []api.Msg{{From: 4, To: 3, Val: -1}}
	out := [][]api.Msg{a, nil, b}
	c := makeIs(t, 3, 1, l, out)
	for i, x := range [][][]api.Msg{
		nil, {a}, {a, nil}, {nil, b}, {a, b}, {nil, a, b}, {a, b, nil}, {b, nil, a}, {a, nil, b, nil}, {nil, a, nil, b}, {a, nil, b, b}, {a, nil, nil}, {nil, nil, b}, {a, b, b},
		{a, {{From: 4, To: 2, Val: 1}}, b}, {a[:1], nil, b}, {a[1:], nil, b}, {slices.Concat(a, b), nil, b}, {slices.Concat(a, a), nil, b},
		{{{From: 4, To: 2, Val: 2}, a[1]}, nil, b}, {a, nil, {{From: 3, To: 4, Val: -1}}}, {a, nil, {{From: 4, To: 3, Val: 1}}}, {a, nil, {{From: 5, To: 3, Val: -1}}},
	} {
		if commit.Keeps(c, l, x) {
			t.Errorf("batches %d: kept", i)
		}
	}
	for i, x := range [][]api.Vertex{nil, l[:1], l[1:], {l[1], l[0]}, {l[0], l[1], l[1]}, {{ID: 4, Value: 8}, l[1]}, {l[0], {ID: 7, Value: -1}}, {{ID: 5, Value: 9}, l[1]}} {
		if commit.Keeps(c, x, out) {
			t.Errorf("vertices %d: kept", i)
		}
	}
	if commit.Keeps(api.Commit{}, nil, nil) || commit.Keeps(api.Commit{}, l, out) || commit.Keeps(api.Commit{Root: c.Root}, l, out) || commit.Keeps(api.Commit{Batches: c.Batches}, l, out) {
		t.Error("the zero commitment: kept")
	}
}

// P12.2, Keeps: each bit of each sum counts.
func TestKeepsBits(t *testing.T) {
	l, out := []api.Vertex{{ID: 1}}, [][]api.Msg{{{From: 1, To: 2, Val: 3}}, nil, nil}
	c := makeIs(t, 0, 0, l, out)
	for bit := range 256 {
		other := c
		other.Root[bit/8] ^= 1 << (bit % 8)
		if commit.Keeps(other, l, out) {
			t.Errorf("bit %d of the root: kept", bit)
		}
		for i := range c.Batches {
			other := c
			other.Batches = slices.Clone(c.Batches)
			other.Batches[i][bit/8] ^= 1 << (bit % 8)
			if commit.Keeps(other, l, out) {
				t.Errorf("bit %d of batch %d: kept", bit, i)
			}
		}
	}
}

// P12.2, Keeps: asks nothing but its words, not whether a commitment may be; and
// messages are a batch in whatever order.
func TestKeepsWhole(t *testing.T) {
	r := rand.New(rand.NewPCG(12, 10))
	for _, n := range []int{0, 1, 2, 64, 65, 100} {
		l, out := someVertices(r, 9), someOut(r, n)
		for _, w := range []int{-1, 0, 63, 64, math.MinInt, math.MaxInt} {
			c := madeBy(w, w, l, out)
			if !commit.Keeps(c, l, out) {
				t.Errorf("worker %d, %d batches: not kept", w, n)
			}
			if commit.Keeps(c, l, append(slices.Clone(out), nil)) || commit.Keeps(c, l[1:], out) {
				t.Errorf("worker %d, %d batches: kept", w, n)
			}
		}
	}
	m := []api.Msg{{From: 1, To: 2, Val: 3}, {From: 4, To: 0, Val: 5}, {From: 0, To: 2, Val: 6}}
	c := makeIs(t, 1, 1, nil, [][]api.Msg{m})
	if !commit.Keeps(c, nil, [][]api.Msg{{m[2], m[0], m[1]}}) {
		t.Error("in another order: not kept")
	}
}

// The rules, Make and Keeps: what is handed in is left as it is, its spare room
// too, and what is handed out is new memory.
func TestMakeMemory(t *testing.T) {
	r := rand.New(rand.NewPCG(12, 11))
	for _, n := range []int{1, 3, 64} {
		l, out := someVertices(r, 5), someOut(r, n)
		room, all := slices.Clone(l[:cap(l)]), copied(out)
		c, _ := commit.Make(1, 2, l, out)
		again, _ := commit.Make(1, 2, l, out)
		commit.Keeps(c, l, out)
		c.Batches[0][0]++
		c.Batches = append(c.Batches, api.Hash{9})
		if !slices.Equal(l[:cap(l)], room) || !slices.EqualFunc(copied(out), all, slices.Equal) {
			t.Errorf("%d batches: what was handed in was changed", n)
		}
		if !alike(again, madeBy(1, 2, l, out)) {
			t.Errorf("%d batches: shared", n)
		}
	}
}
