package seq_test

import (
	"math/rand/v2"
	"slices"
	"testing"

	"modillion/api"
	"modillion/seq"
)

// runIs holds Run to values, and to how many steps it takes.
func runIs(t *testing.T, g api.Graph, j api.Job, want []int64, steps int) {
	t.Helper()
	if values, n, e := seq.Run(g, j); !slices.Equal(values, want) || n != steps || e != api.OK {
		t.Errorf("%v, %v: %v behind %d, %d, not %v behind %d", g, j, values, n, e, want, steps)
	}
}

// runErrs holds Run to an error: no values, and how many steps were done ahead.
func runErrs(t *testing.T, g api.Graph, j api.Job, steps int, want api.Errno) {
	t.Helper()
	if values, n, e := seq.Run(g, j); len(values) > 0 || n != steps || e != want {
		t.Errorf("%v, %v: %v behind %d, %d, not %d behind %d", g, j, values, n, e, want, steps)
	}
}

// whole is a whole job, from the vertex 0: its values behind each step.
type whole struct {
	tag  string
	rows [][]int64
}

// wholes is the seven programs on the small graph, worked out beside the program:
// those of rank and of walks, which go on, as far as they are asked for.
func wholes() []whole {
	return []whole{
		{"max", [][]int64{{11, 48, 21, 58, 31}, {58, 48, 21, 58, 31}, {58, 58, 58, 58, 31}, {58, 58, 58, 58, 31}}},
		{"label", [][]int64{{0, 1, 2, 3, 4}, {0, 0, 0, 1, 4}, {0, 0, 0, 0, 4}, {0, 0, 0, 0, 4}}},
		{"sssp", [][]int64{{0, -1, -1, -1, -1}, {0, 7, 1, -1, -1}, {0, 3, 1, 11, -1}, {0, 3, 1, 7, -1}, {0, 3, 1, 7, -1}}},
		{"bfs", [][]int64{{0, -1, -1, -1, -1}, {0, 1, 1, -1, -1}, {0, 1, 1, 2, -1}, {0, 1, 1, 2, -1}}},
		{"degree", [][]int64{{0, 0, 0, 0, 0}, {1, 2, 1, 2, 0}}},
		{"rank", [][]int64{{65536, 65536, 65536, 65536, 65536}, {65535, 93388, 37682, 121241, 9830}, {112884, 69711, 37681, 97565, 9830}}},
		{"walks", [][]int64{{1, 1, 1, 1, 1}, {2, 3, 2, 3, 1}, {4, 5, 3, 5, 1}, {6, 8, 5, 7, 1}}},
	}
}

// P9.2, Run: a whole job of each program, cut behind each step by its Steps, and
// quiet ahead of them, where it is.
func TestRunExamples(t *testing.T) {
	for _, x := range wholes() {
		for i, want := range x.rows {
			runIs(t, small(), job(x.tag, 0, i+1), want, i+1)
		}
		if x.tag == "rank" || x.tag == "walks" {
			continue
		}
		n := len(x.rows)
		for steps := n; steps <= api.MaxSteps; steps++ {
			runIs(t, small(), job(x.tag, 0, steps), x.rows[n-1], n)
		}
	}
}

// P9.2, Run: from another source, and from one that reaches nobody.
func TestRunSource(t *testing.T) {
	runIs(t, small(), job("sssp", 4, 64), []int64{10, 13, 11, 0, 0}, 6)
	runIs(t, small(), job("bfs", 4, 64), []int64{2, 3, 3, 1, 0}, 5)
	alone := of(4, edge(0, 1, 5), edge(1, 3, 1), edge(2, 3, 1))
	for _, tag := range []string{"sssp", "bfs"} {
		runIs(t, alone, job(tag, 3, 64), []int64{-1, -1, -1, 0}, 1)
		runIs(t, of(2), job(tag, 1, 1), []int64{-1, 0}, 1)
	}
	for _, source := range []int{0, 3} {
		runIs(t, alone, job("degree", source, 64), []int64{0, 1, 0, 2}, 2)
		// Where no way goes in a ring, walks are quiet behind the longest one.
		runIs(t, alone, job("walks", source, 64), []int64{1, 2, 1, 4}, 3)
	}
}

// P9.2, Run: the chapter's example.
func TestRunRing(t *testing.T) {
	runIs(t, of(3, edge(0, 1, 0), edge(1, 2, 0), edge(2, 0, 0)), job("label", 0, 64), []int64{0, 0, 0}, 4)
}

// P9.2, Run: one vertex, without edges and with one to itself.
func TestRunOne(t *testing.T) {
	for _, steps := range []int{1, 2, 64} {
		alone, self := of(1), of(1, edge(0, 0, 6))
		for i, value := range []int64{11, 0, 0, 0} {
			runIs(t, alone, job(tags()[i], 0, steps), []int64{value}, 1)
			runIs(t, self, job(tags()[i], 0, steps), []int64{value}, min(steps, 2))
		}
		runIs(t, alone, job("degree", 0, steps), []int64{0}, 1)
		runIs(t, self, job("degree", 0, steps), []int64{int64(min(steps, 2)) - 1}, min(steps, 2))
		runIs(t, alone, job("walks", 0, steps), []int64{1}, 1)
		runIs(t, self, job("walks", 0, steps), []int64{int64(steps)}, steps)
	}
	runIs(t, of(1), job("rank", 0, 1), []int64{65536}, 1)
	runIs(t, of(1), job("rank", 0, 2), []int64{9830}, 2)
	runIs(t, of(1), job("rank", 0, 64), []int64{9830}, 64)
	runIs(t, of(1, edge(0, 0, 6)), job("rank", 0, 3), []int64{65534}, 3)
}

// P9.2, Run: 64 vertices, all edges that there may be, and a way through all of
// them, which takes all Steps that there may be.
func TestRunMost(t *testing.T) {
	way := of(64)
	var far, ones, numbers, counted []int64
	for v := range 64 {
		if v > 0 {
			way.Edges = append(way.Edges, edge(v-1, v, api.MaxWeight))
		}
		far, ones = append(far, int64(v)*api.MaxWeight), append(ones, 1)
		numbers, counted = append(numbers, int64(v)), append(counted, int64(v+1))
	}
	runIs(t, way, job("sssp", 0, 64), far, 64)
	runIs(t, way, job("bfs", 0, 64), numbers, 64)
	runIs(t, way, job("label", 0, 64), make([]int64, 64), 64)
	runIs(t, way, job("walks", 0, 64), counted, 64)
	far[63], numbers[63] = -1, -1
	runIs(t, way, job("sssp", 0, 63), far, 63)
	runIs(t, way, job("bfs", 0, 63), numbers, 63)
	runIs(t, of(64), job("walks", 63, 64), ones, 1)

	eight := of(64)
	var degrees []int64
	for v := range 64 {
		for i := range 8 {
			eight.Edges = append(eight.Edges, edge(v, (v*3+i)%64, 1))
		}
		degrees = append(degrees, 8)
	}
	runIs(t, eight, job("degree", 0, 64), degrees, 2)
}

// P9.2 and P1, Run: Start's error, no values, and no step done.
func TestRunWrong(t *testing.T) {
	for _, x := range wrongJobs() {
		runErrs(t, x.g, x.j, 0, api.ErrProgJob)
	}
}

// all is all edges that n vertices may have.
func all(n int) api.Graph {
	g := of(n)
	for i := range n * n {
		g.Edges = append(g.Edges, edge(i/n, i%n, 0))
	}
	return g
}

// P9.2 and P1, Run: values that grow too great on the way. Of two vertices what
// came doubles with each step: behind 50 the values are 2^50 - 1, and a step later
// too great. Of three it grows threefold: behind 31 the values are the sum of
// three's powers up to the 30th one, and what comes by the next step is too great,
// be it the last one.
func TestRunFlow(t *testing.T) {
	runIs(t, all(2), job("walks", 0, 50), []int64{great - 1, great - 1}, 50)
	runIs(t, all(3), job("walks", 0, 31), []int64{308836698141973, 308836698141973, 308836698141973}, 31)
	for steps := 51; steps <= 64; steps++ {
		runErrs(t, all(2), job("walks", 1, steps), 50, api.ErrProgFlow)
	}
	for steps := 32; steps <= 64; steps++ {
		runErrs(t, all(3), job("walks", 1, steps), 31, api.ErrProgFlow)
	}
}

// P9.3: in whatever order the edges are, Start, each step, and what a job comes to
// are the same, errors too.
func TestAnyOrder(t *testing.T) {
	wrong := 0
	for seed := range uint64(100) {
		r := rand.New(rand.NewPCG(seed, 21))
		g := someGraph(r, 1+r.IntN(20), 1+r.IntN(8))
		for _, tag := range tags() {
			j := job(tag, r.IntN(g.N), 1+r.IntN(64))
			start, _ := seq.Start(g, j)
			next, sent, _ := seq.Next(g, j, 0, start)
			values, n, e := seq.Run(g, j)
			if e != api.OK {
				wrong++
			}
			for range 3 {
				other := mixed(r, g)
				l, _ := seq.Start(other, j)
				m, some, _ := seq.Next(other, j, 0, l)
				x, k, f := seq.Run(other, j)
				if !slices.Equal(l, start) || !slices.Equal(m, next) || !slices.Equal(some, sent) || !slices.Equal(x, values) || k != n || f != e {
					t.Errorf("seed %d, %v: %v behind %d, %d, not %v behind %d, %d", seed, j, x, k, f, values, n, e)
				}
			}
		}
	}
	if wrong == 0 {
		t.Error("none was ever too great")
	}
}

// P9.2, Run: that it is one Next behind the other, from Start on, till it is quiet
// or there are no Steps left, and not further.
func TestRunIsSteps(t *testing.T) {
	for seed := range uint64(300) {
		r := rand.New(rand.NewPCG(seed, 22))
		g := someGraph(r, 1+r.IntN(9), 1+r.IntN(8))
		j := job(tags()[r.IntN(7)], r.IntN(g.N), 1+r.IntN(64))
		l, e := seq.Start(g, j)
		done := 0
		for e == api.OK && done < j.Steps && slices.ContainsFunc(l, func(x api.Vertex) bool { return x.Active || x.Has }) {
			if l, _, e = seq.Next(g, j, done, l); e == api.OK {
				done++
			}
		}
		if e != api.OK {
			runErrs(t, g, j, done, e)
			continue
		}
		var values []int64
		for _, x := range l {
			values = append(values, x.Value)
		}
		runIs(t, g, j, values, done)
	}
}

// ways is how far each vertex is from each other one along a graph's edges, by
// their Weights, or each counting as 1; -1: there is no way.
func ways(g api.Graph, ones bool) [][]int64 {
	d := make([][]int64, g.N)
	for v := range d {
		d[v] = slices.Repeat([]int64{-1}, g.N)
		d[v][v] = 0
	}
	shorter := func(a, b int, n int64) {
		if d[a][b] < 0 || n < d[a][b] {
			d[a][b] = n
		}
	}
	for _, x := range g.Edges {
		n := x.Weight
		if ones {
			n = 1
		}
		shorter(x.From, x.To, n)
	}
	for k := range g.N {
		for a := range g.N {
			for b := range g.N {
				if d[a][k] >= 0 && d[k][b] >= 0 {
					shorter(a, b, d[a][k]+d[k][b])
				}
			}
		}
	}
	return d
}

// P9.2, Run: where there are Steps enough, the values are what the programs are
// for: how far each vertex is from the source, the greatest and the least value of
// those from which there is a way to it, and how many edges go to it.
func TestRunMeans(t *testing.T) {
	for seed := range uint64(200) {
		r := rand.New(rand.NewPCG(seed, 23))
		g := someGraph(r, 1+r.IntN(30), 2+r.IntN(20))
		far, near := ways(g, false), ways(g, true)
		source := r.IntN(g.N)
		most, least, degrees := make([]int64, g.N), make([]int64, g.N), make([]int64, g.N)
		for b := range g.N {
			least[b] = int64(b)
			for a := range g.N {
				if near[a][b] >= 0 {
					most[b], least[b] = max(most[b], int64((37*a+11)%64)), min(least[b], int64(a))
				}
			}
		}
		for _, x := range g.Edges {
			degrees[x.To]++
		}
		for tag, want := range map[string][]int64{"sssp": far[source], "bfs": near[source], "max": most, "label": least, "degree": degrees} {
			if values, n, e := seq.Run(g, job(tag, source, 64)); !slices.Equal(values, want) || n > g.N+1 || e != api.OK {
				t.Errorf("seed %d, %s: %v behind %d, %d, not %v", seed, tag, values, n, e, want)
			}
		}
	}
}

// P9.2, Run: behind each number of steps walks are as many as there are ways to a
// vertex of fewer edges than these.
func TestRunWalks(t *testing.T) {
	for seed := range uint64(100) {
		r := rand.New(rand.NewPCG(seed, 24))
		g := someGraph(r, 1+r.IntN(8), 2+r.IntN(4))
		last := slices.Repeat([]int64{1}, g.N)
		values := slices.Clone(last)
		for steps := 1; steps <= 12; steps++ {
			if got, _, e := seq.Run(g, job("walks", 0, steps)); !slices.Equal(got, values) || e != api.OK {
				t.Errorf("seed %d, %d steps: %v, %d, not %v", seed, steps, got, e, values)
			}
			came := make([]int64, g.N)
			for _, x := range g.Edges {
				came[x.To] += last[x.From]
			}
			for v, n := range came {
				values[v] += n
			}
			last = came
		}
	}
}
