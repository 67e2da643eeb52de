package seq_test

import (
	"math"
	"math/rand/v2"
	"slices"
	"testing"

	"modillion/api"
	"modillion/seq"
)

// great is the greatest value that may be.
const great = 1 << 50

// tags is the seven programs.
func tags() []string {
	return []string{"max", "label", "sssp", "bfs", "degree", "rank", "walks"}
}

// edge is one, told shortly.
func edge(from, to int, weight int64) api.Edge {
	return api.Edge{From: from, To: to, Weight: weight}
}

// of is a graph of so many vertices.
func of(n int, l ...api.Edge) api.Graph {
	return api.Graph{N: n, Edges: l}
}

// job is one, told shortly.
func job(tag string, source, steps int) api.Job {
	return api.Job{Tag: tag, Source: source, Steps: steps}
}

// msg is one, told shortly.
func msg(from, to int, val int64) api.Msg {
	return api.Msg{From: from, To: to, Val: val}
}

// on is an active vertex to which nothing came.
func on(v int, value int64) api.Vertex {
	return api.Vertex{ID: v, Value: value, Active: true}
}

// off is one that does nothing any more.
func off(v int, value int64) api.Vertex {
	return api.Vertex{ID: v, Value: value}
}

// got is one that isn't active, to which something came.
func got(v int, value, in int64) api.Vertex {
	return api.Vertex{ID: v, Value: value, Has: true, In: in}
}

// both is one that is active, and to which something came.
func both(v int, value, in int64) api.Vertex {
	return api.Vertex{ID: v, Value: value, Active: true, Has: true, In: in}
}

// small is the graph that the examples go by: 1 and 3 have two edges to them, 0
// has two from it, and to 4 there is none.
func small() api.Graph {
	return of(5, edge(3, 0, 10), edge(0, 2, 1), edge(1, 3, 4), edge(0, 1, 7), edge(4, 3, 0), edge(2, 1, 2))
}

// wrongJob is a job that may not be on its graph.
type wrongJob struct {
	g api.Graph
	j api.Job
}

// wrongJobs is such ones, of each thing that may be wrong.
func wrongJobs() []wrongJob {
	l := []wrongJob{{}, {small(), api.Job{}}, {of(0), job("max", 0, 1)}}
	for _, tag := range tags() {
		for _, g := range []api.Graph{
			{}, of(-1), of(65), of(math.MaxInt), of(math.MinInt), of(2, edge(0, 2, 1)), of(2, edge(-1, 0, 1)),
			of(2, edge(0, 1, -1)), of(2, edge(0, 1, 1<<20+1)), of(2, edge(0, 1, 3), edge(0, 1, 4)), {N: 64, Edges: make([]api.Edge, 513)},
		} {
			l = append(l, wrongJob{g, job(tag, 0, 1)})
		}
		for _, source := range []int{-1, 5, 6, 64, math.MinInt, math.MaxInt} {
			l = append(l, wrongJob{small(), job(tag, source, 3)})
		}
		for _, steps := range []int{0, -1, 65, 1 << 32, 1<<32 + 1, math.MinInt, math.MaxInt} {
			l = append(l, wrongJob{small(), job(tag, 0, steps)})
		}
	}
	for _, tag := range []string{"", "no", "Max", "max ", "labels", "dfs", "walk", "rank\x00"} {
		l = append(l, wrongJob{small(), job(tag, 0, 3)})
	}
	return l
}

// someGraph is one at random, of n vertices, each edge with a chance of one in so
// many.
func someGraph(r *rand.Rand, n, in int) api.Graph {
	var l []api.Edge
	for from := range n {
		for to := range n {
			if r.IntN(in) == 0 && len(l) < api.MaxEdges {
				l = append(l, edge(from, to, r.Int64N(20)))
			}
		}
	}
	return mixed(r, api.Graph{N: n, Edges: l})
}

// mixed is a graph with its edges in some other order.
func mixed(r *rand.Rand, g api.Graph) api.Graph {
	l := slices.Clone(g.Edges)
	r.Shuffle(len(l), func(i, j int) { l[i], l[j] = l[j], l[i] })
	return api.Graph{N: g.N, Edges: l}
}

// startIs holds Start to vertices of these values.
func startIs(t *testing.T, g api.Graph, j api.Job, want ...int64) {
	t.Helper()
	var l []api.Vertex
	for v, value := range want {
		l = append(l, on(v, value))
	}
	if got, e := seq.Start(g, j); !slices.Equal(got, l) || e != api.OK {
		t.Errorf("%v, %v: %v, %d, not %v", g, j, got, e, l)
	}
}

// P9.1, Start: worked out beside the program, from a source that isn't 0.
func TestStartExamples(t *testing.T) {
	for _, steps := range []int{1, 2, 64} {
		for _, g := range []api.Graph{small(), of(5)} {
			startIs(t, g, job("max", 3, steps), 11, 48, 21, 58, 31)
			startIs(t, g, job("label", 3, steps), 0, 1, 2, 3, 4)
			startIs(t, g, job("sssp", 3, steps), -1, -1, -1, 0, -1)
			startIs(t, g, job("bfs", 3, steps), -1, -1, -1, 0, -1)
			startIs(t, g, job("degree", 3, steps), 0, 0, 0, 0, 0)
			startIs(t, g, job("rank", 3, steps), 65536, 65536, 65536, 65536, 65536)
			startIs(t, g, job("walks", 3, steps), 1, 1, 1, 1, 1)
		}
	}
}

// P9.1, Start: the fewest and the most vertices.
func TestStartEnds(t *testing.T) {
	for i, value := range []int64{11, 0, 0, 0, 0, 65536, 1} {
		startIs(t, of(1), job(tags()[i], 0, 1), value)
		startIs(t, of(1, edge(0, 0, 1)), job(tags()[i], 0, 64), value)
	}
	far := make([]int64, 64)
	var rising []int64
	for v := range far {
		far[v] = -1
		rising = append(rising, int64(v))
	}
	far[63] = 0
	startIs(t, of(64, edge(0, 63, 1)), job("label", 63, 64), rising...)
	startIs(t, of(64, edge(0, 63, 1)), job("sssp", 63, 64), far...)
}

// P9.1 and P1, Start: ErrProgJob, and nothing beside it.
func TestStartWrong(t *testing.T) {
	for _, x := range wrongJobs() {
		if l, e := seq.Start(x.g, x.j); len(l) > 0 || e != api.ErrProgJob {
			t.Errorf("%v, %v: %v, %d", x.g, x.j, l, e)
		}
	}
}

// P9.2, Quiet: one vertex alone, which is Active, or Has, or both, or none of
// these, whatever else it is; of no vertices there is none that goes on.
func TestQuiet(t *testing.T) {
	if !seq.Quiet(nil) || !seq.Quiet([]api.Vertex{}) {
		t.Error("no vertices aren't quiet")
	}
	for _, v := range []int{0, 1, 63, 64, -1, math.MaxInt, math.MinInt} {
		for _, value := range []int64{0, 1, -1, great, great + 1, math.MaxInt64, math.MinInt64} {
			for _, in := range []int64{0, 1, -1, great, great + 1, math.MaxInt64, math.MinInt64} {
				for i := range 4 {
					x := api.Vertex{ID: v, Value: value, Active: i&1 > 0, Has: i&2 > 0, In: in}
					if seq.Quiet([]api.Vertex{x}) != (i == 0) {
						t.Errorf("%v: %t", x, i != 0)
					}
				}
			}
		}
	}
}

// P9.2, Quiet: one of many that isn't, first, last or between.
func TestQuietOfMany(t *testing.T) {
	for n := 1; n <= 65; n++ {
		var l []api.Vertex
		for v := range n {
			l = append(l, off(v, int64(-v)))
		}
		if !seq.Quiet(l) {
			t.Errorf("%d aren't quiet", n)
		}
		for v := range n {
			for _, x := range []api.Vertex{on(v, 0), got(v, 0, 0), both(v, 0, 0)} {
				some := slices.Clone(l)
				some[v] = x
				if seq.Quiet(some) {
					t.Errorf("%d with %v are quiet", n, x)
				}
			}
		}
	}
}

// P9.2, Values: of none, of one and of several, in order, whatever else they are.
func TestValues(t *testing.T) {
	for _, x := range []struct {
		l    []api.Vertex
		want []int64
	}{
		{nil, nil},
		{[]api.Vertex{}, nil},
		{[]api.Vertex{off(0, 7)}, []int64{7}},
		{[]api.Vertex{{}}, []int64{0}},
		{[]api.Vertex{on(2, 5), got(0, -1, 8), both(9, 5, 5), off(0, great), off(1, -great)}, []int64{5, -1, 5, great, -great}},
		{[]api.Vertex{off(-1, math.MaxInt64), got(64, math.MinInt64, 3), off(-1, 0)}, []int64{math.MaxInt64, math.MinInt64, 0}},
		{make([]api.Vertex, 70), make([]int64, 70)},
	} {
		if got := seq.Values(x.l); !slices.Equal(got, x.want) {
			t.Errorf("%v: %v, not %v", x.l, got, x.want)
		}
	}
}

// The rules: what is handed in stays as it is, its spare room too.
func TestHandedIn(t *testing.T) {
	edges := append(small().Edges, edge(9, 9, 9), edge(8, 8, 8))
	vertices := []api.Vertex{on(0, 0), got(1, -1, 7), {ID: 2, Value: 5, In: 3}, both(3, -1, 11), off(4, -1), on(7, 7), on(8, 8)}
	wasEdges, wasVertices := slices.Clone(edges), slices.Clone(vertices)
	for _, tag := range tags() {
		g, j, l := of(5, edges[:6]...), job(tag, 0, 4), vertices[:5]
		seq.Start(g, j)
		seq.Run(g, j)
		seq.Quiet(l)
		seq.Values(l)
		for at := range 5 {
			seq.Next(g, j, at, l)
			seq.Next(g, j, at, l[:4])
		}
		if !slices.Equal(edges, wasEdges) || !slices.Equal(vertices, wasVertices) {
			t.Fatalf("%s: %v became %v, or %v became %v", tag, wasEdges, edges, wasVertices, vertices)
		}
	}
}

// The rules: what is handed out is new memory, be the vertices as they were.
func TestHandedOut(t *testing.T) {
	g, j := small(), job("sssp", 0, 9)
	first, _ := seq.Start(g, j)
	still := []api.Vertex{off(0, 0), off(1, -1), off(2, -1), off(3, -1), off(4, -1)}
	for _, l := range [][]api.Vertex{first, still} {
		was := slices.Clone(l)
		next, sent, _ := seq.Next(g, j, 0, l)
		wasNext, wasSent := slices.Clone(next), slices.Clone(sent)
		values := seq.Values(l)
		again, sentAgain, _ := seq.Next(g, j, 0, l)
		for i := range again {
			again[i], values[i] = on(-7, -7), -7
		}
		for i := range sentAgain {
			sentAgain[i] = msg(-7, -7, -7)
		}
		if !slices.Equal(l, was) || !slices.Equal(next, wasNext) || !slices.Equal(sent, wasSent) {
			t.Errorf("%v became %v, or %v became %v", was, l, wasNext, next)
		}
	}
	other, _ := seq.Start(g, j)
	other[0] = on(-7, -7)
	startIs(t, g, j, 0, -1, -1, -1, -1)
}
