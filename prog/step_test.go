package prog_test

import (
	"math"
	"math/big"
	"math/rand/v2"
	"slices"
	"testing"

	"modillion/api"
	"modillion/prog"
)

// sample is a graph whose edges stand in no order: from 0 and from 5, its last
// vertex, to several, from 1 and 3 to one, from 2 and 4 to none.
func sample() api.Graph {
	return of(6, edge(0, 4, 9), edge(5, 5, 6), edge(0, 1, 3), edge(3, 0, 1<<20), edge(5, 0, 2), edge(0, 2, 0), edge(1, 3, 4), edge(5, 3, 1))
}

// neighbours is where the sample's edges go to.
func neighbours(v int) []int {
	return [][]int{{1, 2, 4}, {3}, nil, {0}, nil, {0, 3, 5}}[v]
}

// on is an active vertex to which nothing came.
func on(v int, value int64) api.Vertex {
	return api.Vertex{ID: v, Value: value, Active: true}
}

// off is one that does nothing any more.
func off(v int, value int64) api.Vertex {
	return api.Vertex{ID: v, Value: value}
}

// got is one that isn't active, to which something came.
func got(v int, value, in int64) api.Vertex {
	return api.Vertex{ID: v, Value: value, Has: true, In: in}
}

// both is one that is active, and to which something came.
func both(v int, value, in int64) api.Vertex {
	return api.Vertex{ID: v, Value: value, Active: true, Has: true, In: in}
}

// stepped is a step on the sample, and what should become of it: what the
// vertex sends, neighbour by neighbour.
type stepped struct {
	step int
	x    api.Vertex
	want api.Vertex
	vals []int64
}

// holdSteps holds a program's steps, from the vertex 0, to what they should be.
func holdSteps(t *testing.T, tag string, steps int, l []stepped) {
	t.Helper()
	for _, x := range l {
		var want []api.Msg
		for i, val := range x.vals {
			want = append(want, api.Msg{From: x.x.ID, To: neighbours(x.x.ID)[i], Val: val})
		}
		y, sent, e := prog.Step(sample(), job(tag, 0, steps), x.step, x.x)
		if y != x.want || !slices.Equal(sent, want) || e != api.OK {
			t.Errorf("%s, step %d of %d, %v: %v, %v, %d, not %v, %v", tag, x.step, steps, x.x, y, sent, e, x.want, want)
		}
	}
}

// P7.1, Step of max: a value goes out at step 0, and where it has become greater.
func TestStepMax(t *testing.T) {
	holdSteps(t, "max", 4, []stepped{
		{0, on(0, 11), off(0, 11), []int64{11, 11, 11}},
		{0, on(1, -8), off(1, -8), []int64{-8}},
		{0, on(2, 21), off(2, 21), nil},
		{0, on(5, 4), off(5, 4), []int64{4, 4, 4}},
		{0, got(5, 4, 9), off(5, 4), []int64{4, 4, 4}},
		{0, both(1, 4, 9), off(1, 4), []int64{4}},
		{1, got(0, 11, 12), off(0, 12), []int64{12, 12, 12}},
		{1, got(0, 11, 11), off(0, 11), nil},
		{1, got(0, 11, 10), off(0, 11), nil},
		{2, both(1, -8, -7), off(1, -7), []int64{-7}},
		{2, both(1, -8, -9), off(1, -8), nil},
		{2, on(5, -3), off(5, -3), nil},
		{2, got(2, 1, 2), off(2, 2), nil},
		{3, got(5, 4, 5), off(5, 5), []int64{5, 5, 5}},
		{3, on(5, 4), off(5, 4), nil},
		{3, got(3, great-1, great), off(3, great), []int64{great}},
		{3, got(3, -great, 1-great), off(3, 1-great), []int64{1 - great}},
	})
}

// P7.1, Step of label: like max, but for the lesser one.
func TestStepLabel(t *testing.T) {
	holdSteps(t, "label", 4, []stepped{
		{0, on(0, 0), off(0, 0), []int64{0, 0, 0}},
		{0, on(1, 1), off(1, 1), []int64{1}},
		{0, on(2, 2), off(2, 2), nil},
		{0, both(5, 5, 3), off(5, 5), []int64{5, 5, 5}},
		{1, got(5, 5, 4), off(5, 4), []int64{4, 4, 4}},
		{1, got(5, 5, 5), off(5, 5), nil},
		{1, got(5, 5, 6), off(5, 5), nil},
		{2, both(1, 1, -1), off(1, -1), []int64{-1}},
		{2, on(5, 5), off(5, 5), nil},
		{2, got(2, 2, 0), off(2, 0), nil},
		{3, got(0, 7, 3), off(0, 3), []int64{3, 3, 3}},
		{3, got(3, 1-great, -great), off(3, -great), []int64{-great}},
		{3, got(3, great, great-1), off(3, great-1), []int64{great - 1}},
	})
}

// P7.1, Step of sssp: from the source the weights, later how far it is, where it
// has become nearer or is known first.
func TestStepSssp(t *testing.T) {
	holdSteps(t, "sssp", 4, []stepped{
		{0, on(0, 0), off(0, 0), []int64{3, 0, 9}},
		{0, on(0, 77), off(0, 77), []int64{3, 0, 9}},
		{0, both(0, 4, 1), off(0, 4), []int64{3, 0, 9}},
		{0, on(1, -1), off(1, -1), nil},
		{0, got(5, -1, 2), off(5, -1), nil},
		{1, got(1, -1, 3), off(1, 3), []int64{7}},
		{1, got(1, -1, 0), off(1, 0), []int64{4}},
		{1, got(5, 20, 19), off(5, 19), []int64{21, 20, 25}},
		{1, got(5, 20, 20), off(5, 20), nil},
		{1, got(5, 20, 21), off(5, 20), nil},
		{1, got(5, 0, -4), off(5, -4), []int64{-2, -3, 2}},
		{1, got(5, -7, -4), off(5, -4), []int64{-2, -3, 2}},
		{1, got(5, -4, -4), off(5, -4), []int64{-2, -3, 2}},
		{2, both(1, -1, 8), off(1, 8), []int64{12}},
		{2, on(1, -1), off(1, -1), nil},
		{2, on(0, 0), off(0, 0), nil},
		{2, got(2, -1, 8), off(2, 8), nil},
		{3, got(3, 9, 8), off(3, 8), []int64{8 + 1<<20}},
		{3, got(2, -1, great), off(2, great), nil},
		{3, got(3, -1, great-1<<20), off(3, great-1<<20), []int64{great}},
		{3, got(3, 0, -great), off(3, -great), []int64{1<<20 - great}},
	})
}

// P7.1, Step of bfs: like sssp, but each edge counts as 1.
func TestStepBfs(t *testing.T) {
	holdSteps(t, "bfs", 4, []stepped{
		{0, on(0, 0), off(0, 0), []int64{1, 1, 1}},
		{0, on(0, 5), off(0, 5), []int64{1, 1, 1}},
		{0, on(5, -1), off(5, -1), nil},
		{1, got(1, -1, 1), off(1, 1), []int64{2}},
		{1, got(0, 9, 2), off(0, 2), []int64{3, 3, 3}},
		{1, got(0, 9, 9), off(0, 9), nil},
		{1, got(0, 9, 10), off(0, 9), nil},
		{2, both(5, -1, 0), off(5, 0), []int64{1, 1, 1}},
		{2, on(5, -1), off(5, -1), nil},
		{2, got(2, -1, 3), off(2, 3), nil},
		{3, got(3, -1, 4), off(3, 4), []int64{5}},
		{3, got(3, -1, great-1), off(3, great-1), []int64{great}},
		{3, got(2, -1, great), off(2, great), nil},
	})
}

// P7.1, Step of degree: a 1 for each edge, and what they come to.
func TestStepDegree(t *testing.T) {
	holdSteps(t, "degree", 4, []stepped{
		{0, on(0, 0), off(0, 0), []int64{1, 1, 1}},
		{0, on(1, 7), off(1, 7), []int64{1}},
		{0, on(2, 0), off(2, 0), nil},
		{0, both(5, 3, 8), off(5, 3), []int64{1, 1, 1}},
		{1, got(0, 0, 4), off(0, 4), nil},
		{1, got(0, 4, 0), off(0, 0), nil},
		{2, both(1, 2, -3), off(1, -3), nil},
		{2, on(5, 2), off(5, 2), nil},
		{3, got(5, 2, 2), off(5, 2), nil},
		{3, got(5, 2, great), off(5, great), nil},
		{3, got(5, 2, -great), off(5, -great), nil},
	})
}

// P7.1, Step of rank: it goes on till the last step, with what came or without,
// and is rounded down, below 0 too.
func TestStepRank(t *testing.T) {
	holdSteps(t, "rank", 4, []stepped{
		{0, on(0, 65536), on(0, 65536), []int64{21845, 21845, 21845}},
		{0, on(1, 65536), on(1, 65536), []int64{65536}},
		{0, on(2, 65536), on(2, 65536), nil},
		{0, both(0, 7, 1000), on(0, 7), []int64{2, 2, 2}},
		{0, got(5, -1, 0), on(5, -1), []int64{-1, -1, -1}},
		{0, on(5, -3), on(5, -3), []int64{-1, -1, -1}},
		{0, on(5, -4), on(5, -4), []int64{-2, -2, -2}},
		{0, on(5, 2), on(5, 2), []int64{0, 0, 0}},
		{0, on(5, great), on(5, great), []int64{375299968947541, 375299968947541, 375299968947541}},
		{0, on(5, -great), on(5, -great), []int64{-375299968947542, -375299968947542, -375299968947542}},
		{1, both(0, 5, 1001), on(0, 10680), []int64{3560, 3560, 3560}},
		{1, got(1, 5, 100), on(1, 9915), []int64{9915}},
		{1, on(1, 5), on(1, 9830), []int64{9830}},
		{1, on(5, 5), on(5, 9830), []int64{3276, 3276, 3276}},
		{1, both(1, 5, 0), on(1, 9830), []int64{9830}},
		{1, both(1, 5, 1), on(1, 9830), []int64{9830}},
		{1, both(1, 5, 2), on(1, 9831), []int64{9831}},
		{1, both(1, 5, -1), on(1, 9829), []int64{9829}},
		{1, both(1, 5, -2), on(1, 9828), []int64{9828}},
		{1, both(1, 5, -100), on(1, 9745), []int64{9745}},
		{2, both(0, 5, -20000), on(0, -7170), []int64{-2390, -2390, -2390}},
		{2, both(0, 5, -20001), on(0, -7171), []int64{-2391, -2391, -2391}},
		{2, both(0, 5, -11600), on(0, -30), []int64{-10, -10, -10}},
		{2, both(0, 5, -11599), on(0, -30), []int64{-10, -10, -10}},
		{2, both(0, 5, -11598), on(0, -29), []int64{-10, -10, -10}},
		{2, both(4, 5, 200), on(4, 10000), nil},
		{2, both(1, 0, great), on(1, 957014920826060), []int64{957014920826060}},
		{2, both(1, 0, -great), on(1, -957014920806401), []int64{-957014920806401}},
		{3, both(0, 5, 1001), off(0, 10680), nil},
		{3, on(0, 5), off(0, 9830), nil},
		{3, got(5, 5, -1), off(5, 9829), nil},
		{3, api.Vertex{ID: 5, Active: true, In: 99}, off(5, 9830), nil},
	})
}

// P7.1, Step of walks: what came is added, and goes on.
func TestStepWalks(t *testing.T) {
	holdSteps(t, "walks", 4, []stepped{
		{0, on(0, 1), off(0, 1), []int64{1, 1, 1}},
		{0, on(1, 8), off(1, 8), []int64{1}},
		{0, on(2, 1), off(2, 1), nil},
		{0, both(5, 1, 6), off(5, 1), []int64{1, 1, 1}},
		{1, got(0, 5, 6), off(0, 11), []int64{6, 6, 6}},
		{1, got(1, 5, -6), off(1, -1), []int64{-6}},
		{1, got(1, 5, 0), off(1, 5), []int64{0}},
		{2, both(5, 5, 6), off(5, 11), []int64{6, 6, 6}},
		{2, on(5, 5), off(5, 5), nil},
		{2, got(2, 5, 6), off(2, 11), nil},
		{3, got(3, 5, 6), off(3, 11), []int64{6}},
		{3, got(3, great-1, 1), off(3, great), []int64{1}},
		{3, got(3, 1-great, -1), off(3, -great), []int64{-1}},
		{3, got(3, -great, great), off(3, 0), []int64{great}},
	})
}

// P7.1, Step: of one step alone the first one is the last one, of 64 it isn't.
func TestStepEnds(t *testing.T) {
	for _, tag := range []string{"max", "degree", "walks"} {
		holdSteps(t, tag, 1, []stepped{{0, on(1, 1), off(1, 1), []int64{1}}})
		holdSteps(t, tag, 64, []stepped{{0, on(1, 1), off(1, 1), []int64{1}}})
	}
	holdSteps(t, "rank", 1, []stepped{{0, on(1, 7), off(1, 7), nil}, {0, both(5, -3, 8), off(5, -3), nil}})
	holdSteps(t, "rank", 2, []stepped{{0, on(1, 7), on(1, 7), []int64{7}}, {1, on(1, 7), off(1, 9830), nil}})
	holdSteps(t, "rank", 64, []stepped{
		{0, on(1, 7), on(1, 7), []int64{7}},
		{62, on(1, 7), on(1, 9830), []int64{9830}},
		{63, on(1, 7), off(1, 9830), nil},
	})
	holdSteps(t, "max", 64, []stepped{{63, got(1, 7, 8), off(1, 8), []int64{8}}})
	holdSteps(t, "sssp", 64, []stepped{{63, got(1, 7, 6), off(1, 6), []int64{10}}})
}

// P7.1, Step: one that isn't active, and to which nothing came, is as it is,
// what stands in its In too.
func TestStepIdle(t *testing.T) {
	for _, tag := range tags() {
		for step := range 4 {
			for _, v := range []int{0, 1, 2, 5} {
				for _, n := range []int64{0, 5, -1, great, -great} {
					for _, x := range []api.Vertex{off(v, n), {ID: v, Value: 3, In: n}, {ID: v, Value: n, In: -n}} {
						holdSteps(t, tag, 4, []stepped{{step, x, x, nil}})
					}
				}
			}
		}
	}
}

// P7.1, Step: what stands in In doesn't count while nothing came.
func TestStepNothingCame(t *testing.T) {
	for _, tag := range tags() {
		for step := range 4 {
			for v := range 6 {
				for _, value := range []int64{0, 5, -1} {
					want, sent, e := prog.Step(sample(), job(tag, 0, 4), step, on(v, value))
					for _, in := range []int64{1, -1, 6, great, -great} {
						x := on(v, value)
						x.In = in
						y, l, f := prog.Step(sample(), job(tag, 0, 4), step, x)
						if y != want || !slices.Equal(l, sent) || f != e || e != api.OK {
							t.Errorf("%s, step %d, %v: %v, %v, %d", tag, step, x, y, l, f)
						}
					}
				}
			}
		}
	}
}

// P7.1, Step of sssp and bfs: the source is the job's, be it the last vertex.
func TestStepSource(t *testing.T) {
	g := sample()
	for source := range g.N {
		for v := range g.N {
			for _, tag := range []string{"sssp", "bfs"} {
				_, sent, e := prog.Step(g, job(tag, source, 4), 0, on(v, 0))
				want := 0
				if v == source {
					want = len(neighbours(v))
				}
				if len(sent) != want || e != api.OK {
					t.Errorf("%s from %d, %d: %v, %d", tag, source, v, sent, e)
				}
			}
		}
	}
}

// wrongSteps is steps whose job may not be, or that aren't the job's, of each
// vertex that may be.
func wrongSteps(try func(g api.Graph, j api.Job, step, v int)) {
	for _, tag := range tags() {
		for _, g := range noGraphs() {
			try(g, job(tag, 0, 4), 0, 0)
		}
		for _, source := range []int{-1, 6, 64, math.MinInt, math.MaxInt} {
			try(sample(), job(tag, source, 4), 0, 0)
		}
		for _, steps := range []int{0, -1, 65, math.MinInt, math.MaxInt} {
			try(sample(), job(tag, 0, steps), 0, 0)
		}
		for _, v := range []int{-1, 6, 64, math.MinInt, math.MaxInt} {
			try(sample(), job(tag, 0, 4), 0, v)
		}
		for _, step := range []int{-1, 4, 5, 64, math.MinInt, math.MaxInt} {
			try(sample(), job(tag, 0, 4), step, 5)
		}
		try(sample(), job(tag, 0, 1), 1, 0)
		try(sample(), job(tag, 0, 64), 64, 0)
	}
	for _, tag := range noTags() {
		try(sample(), job(tag, 0, 4), 0, 0)
	}
}

// P7.1 and P1, Step: ErrProgJob, ahead of values that are too great, also where
// the vertex has nothing to do; no vertex and no messages beside it.
func TestStepWrong(t *testing.T) {
	wrongSteps(func(g api.Graph, j api.Job, step, v int) {
		for _, x := range []api.Vertex{on(v, 1), off(v, 1), got(v, 1, 2), both(v, 2, 1), on(v, great+1), off(v, -great-1), got(v, 0, math.MaxInt64)} {
			if y, l, e := prog.Step(g, j, step, x); y != (api.Vertex{}) || len(l) > 0 || e != api.ErrProgJob {
				t.Errorf("%v, %v, step %d, %v: %v, %v, %d", g, j, step, x, y, l, e)
			}
		}
	})
}

// holdFlow holds a step to ErrProgFlow, with nothing beside it (P1).
func holdFlow(t *testing.T, tag string, step int, x api.Vertex) {
	t.Helper()
	if y, l, e := prog.Step(sample(), job(tag, 0, 4), step, x); y != (api.Vertex{}) || len(l) > 0 || e != api.ErrProgFlow {
		t.Errorf("%s, step %d, %v: %v, %v, %d", tag, step, x, y, l, e)
	}
}

// P7.1 and P1, Step: a Value or an In that is too great, whether something came
// or not, whether there is something to do or not, and though it isn't used.
func TestStepFlowGiven(t *testing.T) {
	for _, tag := range tags() {
		for step := range 4 {
			for _, v := range []int{0, 1, 2, 5} {
				for _, n := range []int64{great + 1, 1 << 51, math.MaxInt64, -great - 1, -1 << 51, math.MinInt64} {
					for kind := range 4 {
						x := api.Vertex{ID: v, Active: kind%2 == 1, Has: kind/2 == 1}
						x.Value, x.In = n, 3
						holdFlow(t, tag, step, x)
						x.Value, x.In = 3, n
						holdFlow(t, tag, step, x)
						x.Value, x.In = n, -n
						holdFlow(t, tag, step, x)
					}
				}
			}
		}
	}
}

// P7.1 and P1, Step: a Value then, or a value that is sent, that is too great,
// be it along one edge alone.
func TestStepFlowThen(t *testing.T) {
	for step := 1; step < 4; step++ {
		for _, v := range []int{0, 1, 2, 5} {
			holdFlow(t, "walks", step, got(v, great, 1))
			holdFlow(t, "walks", step, both(v, great, great))
			holdFlow(t, "walks", step, got(v, -great, -1))
			holdFlow(t, "walks", step, got(v, -great, -great))
		}
		holdFlow(t, "sssp", step, got(0, -1, great))
		holdFlow(t, "sssp", step, got(0, -1, great-8))
		holdFlow(t, "sssp", step, got(1, -1, great-3))
		holdFlow(t, "sssp", step, got(3, -1, great-1<<20+1))
		holdFlow(t, "sssp", step, both(5, great, great-1))
		holdFlow(t, "bfs", step, got(0, -1, great))
		holdFlow(t, "bfs", step, got(1, -1, great))
	}
}

// P7.1, Step: the order in which the edges stand doesn't matter, and messages go
// by where they go to.
func TestStepOrder(t *testing.T) {
	for seed := range uint64(100) {
		g := sample()
		r := rand.New(rand.NewPCG(seed, 8))
		r.Shuffle(len(g.Edges), func(i, j int) { g.Edges[i], g.Edges[j] = g.Edges[j], g.Edges[i] })
		for v := range g.N {
			_, sent, e := prog.Step(g, job("walks", 0, 4), 0, on(v, 1))
			var to []int
			for _, m := range sent {
				to = append(to, m.To)
			}
			if !slices.Equal(to, neighbours(v)) || e != api.OK {
				t.Errorf("seed %d, %d: %v, %d", seed, v, sent, e)
			}
		}
	}
}

// The document's own example: sssp, from 0, an edge of Weight 5 to 1.
func TestStepExample(t *testing.T) {
	g, j := of(2, edge(0, 1, 5)), job("sssp", 0, 2)
	x, sent, e := prog.Step(g, j, 0, prog.First(j, 0))
	if x != off(0, 0) || !slices.Equal(sent, []api.Msg{{From: 0, To: 1, Val: 5}}) || e != api.OK {
		t.Error(x, sent, e)
	}
	y, sent, e := prog.Step(g, j, 0, prog.First(j, 1))
	if y != off(1, -1) || len(sent) > 0 || e != api.OK {
		t.Error(y, sent, e)
	}
	y.Has, y.In = true, 5
	if y, sent, e = prog.Step(g, j, 1, y); y != off(1, 5) || len(sent) > 0 || e != api.OK {
		t.Error(y, sent, e)
	}
}

// The rules: what is handed in stays as it is, its spare room too, and what is
// handed out is new memory.
func TestOwnMemory(t *testing.T) {
	room := append(sample().Edges, edge(9, 9, 9), edge(8, 8, 8))
	kept := slices.Clone(room)
	g := api.Graph{N: 6, Edges: room[:len(room)-2]}
	j := job("max", 0, 4)
	prog.Check(g, j)
	_, sent, _ := prog.Step(g, j, 0, on(0, 3))
	_, other, _ := prog.Step(g, j, 0, on(0, 3))
	was := slices.Clone(other)
	for i := range sent {
		sent[i] = api.Msg{From: -7, To: -7, Val: -7}
	}
	_ = append(sent, api.Msg{From: -7})
	if _, again, _ := prog.Step(g, j, 0, on(0, 3)); !slices.Equal(again, was) || !slices.Equal(other, was) || len(was) != 3 {
		t.Errorf("%v became %v, %v", was, other, again)
	}
	if !slices.Equal(room, kept) {
		t.Errorf("%v became %v", kept, room)
	}
}

// floor is a by b, rounded down, by numbers of any length.
func floor(a, b int64) int64 {
	x := new(big.Int)
	x.Div(big.NewInt(a), big.NewInt(b)) // of a b above 0 it leaves what is 0 or more
	return x.Int64()
}

// modelled is a step by the chapter's words, program by program, of values that
// are far from too great; l is the vertex's edges in order.
func modelled(j api.Job, step int, x api.Vertex, l []api.Edge) (api.Vertex, []api.Msg) {
	if !x.Active && !x.Has {
		return x, nil
	}
	y, later, came := off(x.ID, x.Value), step > 0, x.In
	sends, weight, plus := false, int64(0), int64(0)
	switch j.Tag {
	case "max":
		if later && x.Has && came > x.Value {
			y.Value = came
		}
		sends, plus = !later || y.Value != x.Value, y.Value
	case "label":
		if later && x.Has && came < x.Value {
			y.Value = came
		}
		sends, plus = !later || y.Value != x.Value, y.Value
	case "sssp", "bfs":
		sends = !later && x.ID == j.Source
		if later && x.Has && (x.Value < 0 || came < x.Value) {
			y.Value, sends, plus = came, true, came
		}
		if weight = 1; j.Tag == "bfs" {
			weight, plus = 0, plus+1
		}
	case "degree":
		if sends, plus = !later, 1; later && x.Has {
			y.Value = came
		}
	case "rank":
		if later && x.Has {
			y.Value = 9830 + floor(came*85, 100)
		} else if later {
			y.Value = 9830
		}
		y.Active = step+1 < j.Steps
		if sends = y.Active && len(l) > 0; sends {
			plus = floor(y.Value, int64(len(l)))
		}
	case "walks":
		if sends, plus = !later, 1; later && x.Has {
			y.Value, sends, plus = x.Value+came, true, came
		}
	}
	var sent []api.Msg
	for _, e := range l {
		if sends {
			sent = append(sent, api.Msg{From: e.From, To: e.To, Val: plus + weight*e.Weight})
		}
	}
	return y, sent
}

// P7.1, Step: some of all kinds, held against the model.
func TestStepModel(t *testing.T) {
	for seed := range uint64(20000) {
		r := rand.New(rand.NewPCG(seed, 9))
		n := 1 + r.IntN(9)
		if seed%5 == 0 {
			n = 64
		}
		var l, own []api.Edge
		x := api.Vertex{ID: r.IntN(n), Active: r.IntN(2) == 0, Has: r.IntN(2) == 0, Value: r.Int64N(9) - 4, In: r.Int64N(9) - 4}
		if seed%3 == 0 {
			x.Value, x.In = r.Int64N(great)-great/2, r.Int64N(great)-great/2
		}
		for from := range n {
			for to := range n {
				if e := edge(from, to, r.Int64N(1<<20+1)); r.IntN(n) < 3 && len(l) < 512 {
					l = append(l, e)
					if from == x.ID {
						own = append(own, e)
					}
				}
			}
		}
		r.Shuffle(len(l), func(i, j int) { l[i], l[j] = l[j], l[i] })
		j := job(tags()[r.IntN(7)], r.IntN(n), 1+r.IntN(4))
		step := r.IntN(j.Steps)
		want, sent := modelled(j, step, x, own)
		y, got, e := prog.Step(of(n, l...), j, step, x)
		if y != want || !slices.Equal(got, sent) || e != api.OK {
			t.Errorf("%v, step %d, %v: %v, %v, %d, not %v, %v", j, step, x, y, got, e, want, sent)
		}
	}
}
