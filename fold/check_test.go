package fold_test

import (
	"math"
	"math/rand/v2"
	"slices"
	"testing"

	"modillion/api"
	"modillion/fold"
)

// edge is one, told shortly.
func edge(from, to int, weight int64) api.Edge {
	return api.Edge{From: from, To: to, Weight: weight}
}

// of is a graph of so many vertices.
func of(n int, l ...api.Edge) api.Graph {
	return api.Graph{N: n, Edges: l}
}

// sample is a graph whose edges stand in no order: 0 and 1 have one each way,
// 2 one to itself, 3 none to it, 4 none at all.
func sample() api.Graph {
	return of(5, edge(3, 0, 9), edge(2, 2, 0), edge(0, 1, 3), edge(1, 2, 1<<20), edge(1, 0, 3))
}

// full is the first edges of 64 vertices, and a message along each.
func full(count int) (api.Graph, []api.Msg) {
	g := of(64)
	var l []api.Msg
	for i := range count {
		g.Edges = append(g.Edges, edge(i/64, i%64, 1))
		l = append(l, msg(i/64, i%64, int64(i)-great/2))
	}
	return g, l
}

// checkIs holds Check to an error.
func checkIs(t *testing.T, g api.Graph, l []api.Msg, want api.Errno) {
	t.Helper()
	if e := fold.Check(g, l); e != want {
		t.Errorf("%v along %v: %d, not %d", l, g, e, want)
	}
}

// P8.1, Check: messages that may be sent: none, some, one along each edge, of
// the greatest and the least values; and the ends of the greatest graph.
func TestCheck(t *testing.T) {
	g := sample()
	for _, l := range [][]api.Msg{
		nil,
		{},
		{msg(0, 1, 5)},
		{msg(1, 0, 5)},
		{msg(0, 1, 5), msg(1, 0, 5)},
		{msg(1, 0, 5), msg(1, 2, 5)},
		{msg(3, 0, 5), msg(1, 0, 5)},
		{msg(2, 2, 0)},
		{msg(0, 1, great)},
		{msg(0, 1, -great)},
		{msg(0, 1, great), msg(1, 0, -great), msg(2, 2, great-1), msg(1, 2, 1-great), msg(3, 0, -1)},
	} {
		checkIs(t, g, l, api.OK)
	}
	for _, g := range []api.Graph{of(1), of(64), {N: 2, Edges: []api.Edge{}}} {
		checkIs(t, g, nil, api.OK)
		checkIs(t, g, list(), api.OK)
	}
	last := of(64, edge(63, 0, 1), edge(0, 63, 1), edge(63, 63, 1), edge(0, 0, 1))
	checkIs(t, last, list(msg(63, 63, 1), msg(0, 0, 2), msg(63, 0, 3), msg(0, 63, 4)), api.OK)
	for _, v := range []int{-1, 64, 65, 128, math.MinInt, math.MaxInt} {
		for _, wrong := range list(msg(v, 0, 1), msg(0, v, 1), msg(v, 63, 1), msg(63, v, 1), msg(v, v, 1)) {
			checkIs(t, last, list(wrong), api.ErrFoldForm)
		}
	}
}

// P8.1, Check, and P8.3: as many as there may be edges, in whatever order.
func TestCheckFull(t *testing.T) {
	g, l := full(512)
	for seed := range uint64(20) {
		l := mixed(seed, l)
		checkIs(t, g, l, api.OK)
		checkIs(t, g, append(slices.Clone(l), l[seed]), api.ErrFoldForm)
		checkIs(t, g, append(slices.Clone(l), msg(8, 0, 0)), api.ErrFoldForm)
		for i := range l {
			other := slices.Clone(l)
			other[i].Val = great + 1
			checkIs(t, g, other, api.ErrFoldForm)
		}
	}
}

// P8.1, Check: a graph that may not be, with messages and without.
func TestCheckGraph(t *testing.T) {
	much, l := full(513)
	checkIs(t, much, nil, api.ErrFoldForm)
	checkIs(t, much, l, api.ErrFoldForm)
	for _, g := range []api.Graph{
		{}, of(0), of(-1), of(65), of(math.MaxInt), of(math.MinInt), of(0, edge(0, 1, 1)), of(65, edge(0, 1, 1)), of(1, edge(0, 1, 1)),
		of(2, edge(0, 1, 1), edge(0, 2, 1)), of(2, edge(0, 1, 1), edge(2, 0, 1)), of(2, edge(0, 1, 1), edge(0, -1, 1)),
		of(2, edge(0, 1, 1), edge(-1, 0, 1)), of(2, edge(0, 1, -1)), of(2, edge(0, 1, 1<<20+1)),
		of(2, edge(0, 1, 1), edge(0, 1, 1)), of(2, edge(0, 1, 1), edge(0, 1, 2)),
		of(80, edge(70, 75, 1)), of(2, edge(math.MinInt, math.MaxInt, 1)),
	} {
		for _, l := range [][]api.Msg{nil, {}, {msg(0, 1, 5)}, {msg(0, 1, 5), msg(0, 1, 5)}, {msg(70, 75, 5)}, {msg(math.MinInt, math.MaxInt, 5)}} {
			checkIs(t, g, l, api.ErrFoldForm)
		}
	}
}

// P8.1, Check: a message that may not be sent, alone, ahead of others, behind
// them, and between.
func TestCheckWrong(t *testing.T) {
	right := list(msg(3, 0, 5), msg(1, 2, 5), msg(2, 2, 5))
	for _, wrong := range []api.Msg{
		// Along no edge.
		msg(0, 0, 5), msg(0, 4, 5), msg(4, 0, 5), msg(4, 4, 5), msg(1, 1, 5), msg(3, 2, 5), msg(0, 2, 5),
		// The other way round.
		msg(0, 3, 5), msg(2, 1, 5),
		// Of numbers that no vertex of it has.
		msg(5, 0, 5), msg(0, 5, 5), msg(5, 5, 5), msg(64, 0, 5), msg(0, 64, 5), msg(64, 64, 5), msg(0, 65, 5),
		msg(-1, 0, 5), msg(0, -1, 5), msg(-1, -1, 5), msg(-1, 65, 5), msg(1, -64, 5),
		msg(math.MinInt, 0, 5), msg(0, math.MinInt, 5), msg(math.MaxInt, 0, 5), msg(0, math.MaxInt, 5), msg(1<<32, 1, 5), msg(0, 1<<32+1, 5),
		// Of values that are too great.
		msg(0, 1, great+1), msg(0, 1, -great-1), msg(0, 1, 1<<51), msg(0, 1, -1<<51), msg(0, 1, math.MaxInt64), msg(0, 1, math.MinInt64),
		// Both.
		msg(0, 4, great+1), msg(-1, 0, math.MinInt64),
	} {
		checkIs(t, sample(), list(wrong), api.ErrFoldForm)
		for i := range len(right) + 1 {
			checkIs(t, sample(), slices.Insert(slices.Clone(right), i, wrong), api.ErrFoldForm)
		}
	}
	checkIs(t, sample(), right, api.OK)
	checkIs(t, of(3), list(msg(0, 1, 1)), api.ErrFoldForm)
}

// P8.1, Check: two along the same edge, of the same value and of another one,
// side by side or not.
func TestCheckTwice(t *testing.T) {
	between := list(msg(3, 0, 5), msg(1, 2, 5))
	for _, x := range list(msg(0, 1, 5), msg(1, 0, 5), msg(2, 2, 5)) {
		other := x
		other.Val = 6
		for _, twice := range [][]api.Msg{{x, x}, {x, other}, {other, x}} {
			checkIs(t, sample(), twice, api.ErrFoldForm)
			checkIs(t, sample(), append(slices.Clone(twice), between...), api.ErrFoldForm)
			checkIs(t, sample(), append(append(twice[:1:1], between...), twice[1]), api.ErrFoldForm)
		}
		checkIs(t, sample(), list(x, x, x), api.ErrFoldForm)
	}
}

// may is whether messages may be sent, by the chapter's words, of a graph that
// may be: for each one its edge is looked for, and for another one along that.
func may(g api.Graph, l []api.Msg) bool {
	for i, m := range l {
		along := slices.IndexFunc(g.Edges, func(x api.Edge) bool { return x.From == m.From && x.To == m.To })
		again := slices.IndexFunc(l[i+1:], func(x api.Msg) bool { return x.From == m.From && x.To == m.To })
		if along < 0 || again >= 0 || m.Val > great || m.Val < -great {
			return false
		}
	}
	return true
}

// P8.1, Check: some of all kinds, held against the words.
func TestCheckModel(t *testing.T) {
	right := 0
	for seed := range uint64(5000) {
		r := rand.New(rand.NewPCG(seed, 11))
		g := of(1 + r.IntN(5))
		for from := range g.N {
			for to := range g.N {
				if r.IntN(4) > 0 {
					g.Edges = append(g.Edges, edge(from, to, int64(r.IntN(9))))
				}
			}
		}
		r.Shuffle(len(g.Edges), func(i, j int) { g.Edges[i], g.Edges[j] = g.Edges[j], g.Edges[i] })
		var l []api.Msg
		for range r.IntN(5) {
			l = append(l, msg(r.IntN(g.N), r.IntN(g.N), great-r.Int64N(30)+1))
		}
		want := api.ErrFoldForm
		if may(g, l) {
			want = api.OK
			right++
		}
		checkIs(t, g, l, want)
	}
	if right < 1000 || right > 4000 {
		t.Errorf("%d of 5000 may be sent", right)
	}
}
