package graph_test

import (
	"math"
	"math/rand/v2"
	"slices"
	"testing"

	"modillion/api"
	"modillion/graph"
)

// edge is one, told shortly.
func edge(from, to int, weight int64) api.Edge {
	return api.Edge{From: from, To: to, Weight: weight}
}

// of is a graph of so many vertices.
func of(n int, l ...api.Edge) api.Graph {
	return api.Graph{N: n, Edges: l}
}

// many is the first of all edges that n vertices may have, in order.
func many(n, count int) []api.Edge {
	var l []api.Edge
	for i := range count {
		l = append(l, edge(i/n, i%n, int64(i)))
	}
	return l
}

// mixed is the edges in some other order.
func mixed(seed uint64, l []api.Edge) []api.Edge {
	l = slices.Clone(l)
	r := rand.New(rand.NewPCG(seed, 5))
	r.Shuffle(len(l), func(i, j int) { l[i], l[j] = l[j], l[i] })
	return l
}

// some is a graph that may be, of that seed, its edges in no order.
func some(seed uint64) api.Graph {
	r := rand.New(rand.NewPCG(seed, 6))
	n := 1 + r.IntN(api.MaxVertices)
	if seed%3 == 0 {
		n = 1 + r.IntN(5)
	}
	var l []api.Edge
	for from := range n {
		for to := range n {
			if r.IntN(n) < 4 && len(l) < api.MaxEdges {
				l = append(l, edge(from, to, r.Int64N(api.MaxWeight+1)))
			}
		}
	}
	return api.Graph{N: n, Edges: mixed(seed, l)}
}

// ordered is the edges that are wanted, in order, found by asking for each pair
// of vertices in turn.
func ordered(g api.Graph, wanted func(from, to int) bool) []api.Edge {
	var l []api.Edge
	for from := range g.N {
		for to := range g.N {
			for _, x := range g.Edges {
				if x.From == from && x.To == to && wanted(from, to) {
					l = append(l, x)
				}
			}
		}
	}
	return l
}

func all(from, to int) bool { return true }

// told is a graph, what Check should say of it, and why.
type told struct {
	why string
	g   api.Graph
	e   api.Errno
}

// may is graphs that may be.
func may() []told {
	last := api.MaxVertices - 1
	return []told{
		{"one vertex", of(1), api.OK},
		{"no edge, empty", api.Graph{N: 2, Edges: []api.Edge{}}, api.OK},
		{"64 vertices", of(64), api.OK},
		{"a vertex to itself", of(1, edge(0, 0, 7)), api.OK},
		{"the first and the last", of(64, edge(0, last, 1), edge(last, 0, 2), edge(last, last, 3), edge(0, 0, 4)), api.OK},
		{"weights", of(2, edge(0, 1, 0), edge(1, 0, 1<<20)), api.OK},
		{"there and back", of(2, edge(1, 0, 5), edge(0, 1, 5)), api.OK},
		{"the same From", of(3, edge(1, 2, 5), edge(1, 0, 5), edge(1, 1, 5)), api.OK},
		{"the same To", of(3, edge(2, 1, 5), edge(0, 1, 5), edge(1, 1, 5)), api.OK},
		{"512 edges", of(64, many(64, 512)...), api.OK},
		{"512 edges, turned", of(23, mixed(1, many(23, 512))...), api.OK},
	}
}

// mayNot is graphs that may not be.
func mayNot() []told {
	form, twice := api.ErrGraphForm, api.ErrGraphTwice
	l := []told{
		{"none", of(0), form},
		{"65 vertices", of(65), form},
		{"below 0", of(-1), form},
		{"far below 0", of(math.MinInt), form},
		{"far above", of(math.MaxInt), form},
		{"513 edges", of(64, many(64, 513)...), form},
		{"513 edges, all the same", of(64, make([]api.Edge, 513)...), form},
		{"no vertex, and an edge", of(0, edge(0, 0, 0)), form},
		{"twice", of(2, edge(0, 1, 3), edge(0, 1, 3)), twice},
		{"twice, of another weight", of(2, edge(0, 1, 3), edge(0, 1, 4)), twice},
		{"twice, not side by side", of(3, edge(2, 1, 3), edge(0, 1, 3), edge(2, 0, 3), edge(2, 1, 0)), twice},
		{"twice, a vertex to itself", of(1, edge(0, 0, 0), edge(0, 0, 0)), twice},
		{"twice, the last vertices", of(64, edge(63, 63, 1), edge(0, 0, 1), edge(63, 63, 2)), twice},
		{"three times", of(2, edge(1, 0, 0), edge(1, 0, 1), edge(1, 0, 2)), twice},
		{"twice among 512", of(64, append(many(64, 511), edge(0, 0, 9))...), twice},
	}
	for _, wrong := range []api.Edge{
		edge(-1, 0, 0), edge(0, -1, 0), edge(3, 0, 0), edge(0, 3, 0), edge(64, 0, 0), edge(0, 64, 0),
		edge(math.MinInt, 0, 0), edge(0, math.MaxInt, 0),
		edge(0, 1, -1), edge(0, 1, 1<<20+1), edge(0, 1, math.MaxInt64), edge(0, 1, math.MinInt64),
	} {
		l = append(l,
			told{"a wrong edge", of(3, wrong), form},
			told{"a wrong edge first", of(3, wrong, edge(2, 2, 2)), form},
			told{"a wrong edge last", of(3, edge(2, 2, 2), edge(1, 2, 2), wrong), form},
			told{"a wrong edge twice", of(3, wrong, wrong), form},
			told{"an edge twice, and a wrong one behind", of(3, edge(2, 2, 2), edge(2, 2, 1), wrong), form},
			told{"an edge twice, and a wrong one ahead", of(3, wrong, edge(2, 2, 2), edge(2, 2, 1)), form})
	}
	return l
}

// P5.1, Check: graphs that may be, and those that may not; what is wrong in its
// form is told ahead of an edge that is there twice.
func TestCheck(t *testing.T) {
	for _, x := range append(may(), mayNot()...) {
		if e := graph.Check(x.g); e != x.e {
			t.Errorf("%s: %d, not %d", x.why, e, x.e)
		}
	}
	for seed := range uint64(50) {
		g := some(seed)
		if e := graph.Check(g); e != api.OK {
			t.Errorf("seed %d: %d", seed, e)
		}
		for i, x := range g.Edges {
			if e := graph.Check(of(g.N, append(slices.Clone(g.Edges[:min(len(g.Edges), 511)]), edge(x.From, x.To, x.Weight/2))...)); e != api.ErrGraphTwice && i < 511 {
				t.Errorf("seed %d, edge %d twice: %d", seed, i, e)
			}
		}
	}
}

// P5.1, Check: how many vertices there are says which edges may be.
func TestCheckEnds(t *testing.T) {
	for n := 1; n <= api.MaxVertices; n++ {
		for _, v := range []int{-1, 0, n - 1, n, n + 1} {
			want := api.OK
			if v < 0 || v >= n {
				want = api.ErrGraphForm
			}
			for _, x := range []api.Edge{edge(v, 0, 1), edge(0, v, 1), edge(v, v, 1), edge(v, n-1, 1), edge(n-1, v, 1)} {
				if e := graph.Check(of(n, x)); e != want {
					t.Errorf("%d vertices, %v: %d", n, x, e)
				}
			}
		}
	}
}

// P5.1, Norm: all edges, in order, whatever order they came in.
func TestNorm(t *testing.T) {
	l := may()
	for seed := range uint64(50) {
		l = append(l, told{"some", some(seed), api.OK})
	}
	for _, x := range l {
		want := ordered(x.g, all)
		turned := slices.Clone(want)
		slices.Reverse(turned)
		for _, edges := range [][]api.Edge{x.g.Edges, want, turned, mixed(3, want)} {
			g, e := graph.Norm(api.Graph{N: x.g.N, Edges: edges})
			if e != api.OK || g.N != x.g.N || !slices.Equal(g.Edges, want) {
				t.Errorf("%s: %v, %d", x.why, g, e)
			}
		}
	}
}

// P5.1 and P1, Norm: Check's error, and no graph beside it.
func TestNormWrong(t *testing.T) {
	for _, x := range mayNot() {
		if g, e := graph.Norm(x.g); e != x.e || g.N != 0 || len(g.Edges) != 0 {
			t.Errorf("%s: %v, %d", x.why, g, e)
		}
	}
}

// P5.1, Out and In: of every vertex, and of what is none.
func TestOutIn(t *testing.T) {
	l := may()
	for seed := range uint64(20) {
		l = append(l, told{"some", some(seed), api.OK})
	}
	for _, x := range l {
		for v := range x.g.N {
			if got, want := graph.Out(x.g, v), ordered(x.g, func(from, to int) bool { return from == v }); !slices.Equal(got, want) {
				t.Errorf("%s: from %d: %v, not %v", x.why, v, got, want)
			}
			if got, want := graph.In(x.g, v), ordered(x.g, func(from, to int) bool { return to == v }); !slices.Equal(got, want) {
				t.Errorf("%s: to %d: %v, not %v", x.why, v, got, want)
			}
		}
		for _, v := range []int{-1, x.g.N, x.g.N + 1, 64, 65, math.MinInt, math.MaxInt} {
			if got := append(graph.Out(x.g, v), graph.In(x.g, v)...); len(got) > 0 {
				t.Errorf("%s: %d is no vertex: %v", x.why, v, got)
			}
		}
	}
}

// P5.1, Out and In: vertices without an edge, or with edges of one kind alone.
func TestOutInNone(t *testing.T) {
	g := of(4, edge(2, 1, 8), edge(2, 0, 9), edge(0, 1, 7))
	for v, want := range []struct{ out, in []api.Edge }{
		{[]api.Edge{edge(0, 1, 7)}, []api.Edge{edge(2, 0, 9)}},
		{nil, []api.Edge{edge(0, 1, 7), edge(2, 1, 8)}},
		{[]api.Edge{edge(2, 0, 9), edge(2, 1, 8)}, nil},
		{nil, nil},
	} {
		if out, in := graph.Out(g, v), graph.In(g, v); !slices.Equal(out, want.out) || !slices.Equal(in, want.in) {
			t.Errorf("%d: %v, %v", v, out, in)
		}
	}
}

// P5.1, Out and In: none of a graph that may not be, though there are such edges.
func TestOutInWrong(t *testing.T) {
	for _, x := range mayNot() {
		for _, v := range []int{-1, 0, 1, 2, 3, 63, 64, math.MinInt, math.MaxInt} {
			if got := append(graph.Out(x.g, v), graph.In(x.g, v)...); len(got) > 0 {
				t.Errorf("%s: %d: %v", x.why, v, got)
			}
		}
	}
}

// The rules: what is handed in stays as it is, its spare room too, and what is
// handed out is new memory.
func TestOwnMemory(t *testing.T) {
	room := []api.Edge{edge(2, 1, 5), edge(1, 2, 6), edge(1, 0, 7), edge(9, 9, 9), edge(8, 8, 8)}
	kept := slices.Clone(room)
	g := api.Graph{N: 3, Edges: room[:3]}
	n, _ := graph.Norm(g)
	again, _ := graph.Norm(n)
	for _, l := range [][]api.Edge{n.Edges, again.Edges, graph.Out(g, 1), graph.In(g, 0)} {
		if len(l) == 0 {
			t.Fatal("no edges")
		}
		l = append(l, edge(7, 7, 7))
		for i := range l {
			l[i] = edge(6, 6, 6)
		}
	}
	graph.Check(g)
	graph.Show(g)
	if !slices.Equal(room, kept) {
		t.Errorf("%v became %v", kept, room)
	}
	if l := graph.Out(again, 1); len(l) > 0 {
		t.Error("what was written over is a graph still")
	}
}
