package worker_test

import (
	"math"
	"math/rand/v2"
	"slices"
	"testing"

	"modillion/api"
	"modillion/part"
	"modillion/prog"
	"modillion/state"
	"modillion/worker"
)

// great is the greatest value that may be.
const great = 1 << 50

// tags is the seven programs.
func tags() []string {
	return []string{"max", "label", "sssp", "bfs", "degree", "rank", "walks"}
}

// edge is one, told shortly.
func edge(from, to int, weight int64) api.Edge {
	return api.Edge{From: from, To: to, Weight: weight}
}

// of is a graph of so many vertices.
func of(n int, l ...api.Edge) api.Graph {
	return api.Graph{N: n, Edges: l}
}

// job is one, told shortly.
func job(tag string, source, steps int) api.Job {
	return api.Job{Tag: tag, Source: source, Steps: steps}
}

// msg is one, told shortly.
func msg(from, to int, val int64) api.Msg {
	return api.Msg{From: from, To: to, Val: val}
}

// on is an active vertex.
func on(v int, value int64) api.Vertex {
	return api.Vertex{ID: v, Value: value, Active: true}
}

// off is one that does nothing any more.
func off(v int, value int64) api.Vertex {
	return api.Vertex{ID: v, Value: value}
}

// small is the graph that the examples go by. Of two workers the first one has 0,
// 1, 2, 4 and 5, and the second one 3 and 6.
func small() api.Graph {
	return of(7, edge(3, 0, 10), edge(0, 2, 1), edge(6, 3, 3), edge(1, 3, 4), edge(0, 1, 7), edge(4, 3, 0), edge(2, 1, 2), edge(3, 6, 1))
}

// someGraph is one at random, of n vertices, each edge with a chance of one in so
// many.
func someGraph(r *rand.Rand, n, in int) api.Graph {
	var l []api.Edge
	for from := range n {
		for to := range n {
			if r.IntN(in) == 0 && len(l) < api.MaxEdges {
				l = append(l, edge(from, to, r.Int64N(20)))
			}
		}
	}
	r.Shuffle(len(l), func(i, j int) { l[i], l[j] = l[j], l[i] })
	return of(n, l...)
}

// made is a worker who may be.
func made(t *testing.T, g api.Graph, j api.Job, workers, w int) *worker.Worker {
	t.Helper()
	k, e := worker.New(g, j, workers, w)
	if k == nil || e != api.OK {
		t.Fatalf("%v, %v, %d of %d: %d", g, j, w, workers, e)
	}
	return k
}

// loaded is a worker with these vertices behind so many steps.
func loaded(t *testing.T, g api.Graph, j api.Job, workers, w, step int, l ...api.Vertex) *worker.Worker {
	t.Helper()
	k := made(t, g, j, workers, w)
	if e := k.Load(bytes(step, l)); e != api.OK {
		t.Fatalf("%v, %v, %d of %d, step %d, %v: %d", g, j, w, workers, step, l, e)
	}
	return k
}

// firsts is a worker's vertices as they are at first, by the chapter's words.
func firsts(g api.Graph, j api.Job, workers, w int) []api.Vertex {
	var l []api.Vertex
	for v := range g.N {
		if part.Owner(v, workers) == w {
			l = append(l, prog.First(j, v))
		}
	}
	return l
}

// is holds all that a worker answers to the chapter's words: how many steps were
// done, his vertices behind the last one, and those ahead of it (none, if no step
// was done since he was made, or Loaded).
func is(t *testing.T, k *worker.Worker, step int, l, ahead []api.Vertex) {
	t.Helper()
	if k.Step() != step {
		t.Errorf("step %d, not %d", k.Step(), step)
	}
	if got := k.Vertices(); !slices.Equal(got, l) {
		t.Errorf("vertices %v, not %v", got, l)
	}
	if k.Root() != state.Root(l) {
		t.Errorf("not the root of %v", l)
	}
	if got := k.Save(); got != bytes(step, l) {
		t.Errorf("saved %q, not %q", got, bytes(step, l))
	}
	opensAs(t, k, l, ahead)
}

// wrongJob is a job that may not be on its graph.
type wrongJob struct {
	g api.Graph
	j api.Job
}

// wrongJobs is such ones, of each thing that may be wrong.
func wrongJobs() []wrongJob {
	l := []wrongJob{{}, {small(), api.Job{}}, {of(0), job("max", 0, 1)}}
	for _, tag := range tags() {
		for _, g := range []api.Graph{
			{}, of(-1), of(65), of(math.MaxInt), of(math.MinInt), of(2, edge(0, 2, 1)), of(2, edge(-1, 0, 1)),
			of(2, edge(0, 1, -1)), of(2, edge(0, 1, 1<<20+1)), of(2, edge(0, 1, 3), edge(0, 1, 4)), {N: 64, Edges: make([]api.Edge, 513)},
		} {
			l = append(l, wrongJob{g, job(tag, 0, 1)})
		}
		for _, source := range []int{-1, 7, 8, 64, math.MinInt, math.MaxInt} {
			l = append(l, wrongJob{small(), job(tag, source, 3)})
		}
		for _, steps := range []int{0, -1, 65, 1 << 32, 1<<32 + 1, math.MinInt, math.MaxInt} {
			l = append(l, wrongJob{small(), job(tag, 0, steps)})
		}
	}
	for _, tag := range []string{"", "no", "Max", "max ", "labels", "dfs", "walk", "rank\x00"} {
		l = append(l, wrongJob{small(), job(tag, 0, 3)})
	}
	return l
}

// newErrs holds New to ErrWorkForm, and no worker beside it (P1).
func newErrs(t *testing.T, g api.Graph, j api.Job, workers, w int) {
	t.Helper()
	if k, e := worker.New(g, j, workers, w); k != nil || e != api.ErrWorkForm {
		t.Errorf("%v, %v, %d of %d: %v, %d", g, j, w, workers, k, e)
	}
}

// P13.1, New, Vertices and Step: worked out beside the program, of one worker and
// of both of two, from a source that isn't 0.
func TestNewExamples(t *testing.T) {
	for _, x := range []struct {
		tag  string
		want []int64
	}{
		{"max", []int64{11, 48, 21, 58, 31, 4, 41}},
		{"label", []int64{0, 1, 2, 3, 4, 5, 6}},
		{"sssp", []int64{-1, -1, -1, 0, -1, -1, -1}},
		{"bfs", []int64{-1, -1, -1, 0, -1, -1, -1}},
		{"degree", []int64{0, 0, 0, 0, 0, 0, 0}},
		{"rank", []int64{65536, 65536, 65536, 65536, 65536, 65536, 65536}},
		{"walks", []int64{1, 1, 1, 1, 1, 1, 1}},
	} {
		for _, steps := range []int{1, 2, 64} {
			for _, g := range []api.Graph{small(), of(7)} {
				var all, first, second []api.Vertex
				for v, value := range x.want {
					all = append(all, on(v, value))
					if v == 3 || v == 6 {
						second = append(second, on(v, value))
					} else {
						first = append(first, on(v, value))
					}
				}
				is(t, made(t, g, job(x.tag, 3, steps), 1, 0), 0, all, nil)
				is(t, made(t, g, job(x.tag, 3, steps), 2, 0), 0, first, nil)
				is(t, made(t, g, job(x.tag, 3, steps), 2, 1), 0, second, nil)
			}
		}
	}
}

// P13.1, New: any number of workers that may be, each of them; each vertex is
// just one's, and many of 64 workers have none.
func TestNewAll(t *testing.T) {
	for workers := 1; workers <= 64; workers++ {
		for _, n := range []int{1, 2, 5, 64} {
			j := job(tags()[workers%7], workers%n, workers)
			met := make([]int, n)
			for w := range workers {
				k := made(t, of(n), j, workers, w)
				is(t, k, 0, firsts(of(n), j, workers, w), nil)
				for _, x := range k.Vertices() {
					met[x.ID]++
				}
			}
			if slices.Max(met) != 1 || slices.Min(met) != 1 {
				t.Errorf("%d vertices, %d workers: %v", n, workers, met)
			}
		}
	}
	none := made(t, of(1), job("max", 0, 1), 2, 1)
	if l := none.Vertices(); len(l) > 0 || none.Root() != state.Root(nil) {
		t.Errorf("the second one of two has %v of one vertex", l)
	}
}

// P13.1 and P1, New: ErrWorkForm, of a job that may not be on the graph.
func TestNewWrongJob(t *testing.T) {
	for _, x := range wrongJobs() {
		for _, n := range [][2]int{{1, 0}, {2, 1}, {64, 63}, {0, 0}, {65, 64}, {2, -1}} {
			newErrs(t, x.g, x.j, n[0], n[1])
		}
	}
}

// P13.1 and P1, New: ErrWorkForm, of numbers of workers that may not be, and of a
// worker that is none of them.
func TestNewWrongWorker(t *testing.T) {
	for _, tag := range tags() {
		j := job(tag, 6, 3)
		for _, workers := range []int{0, -1, -2, 65, 66, 128, 1 << 32, 1<<32 + 1, math.MinInt, math.MaxInt} {
			for _, w := range []int{0, 1, -1, 63, 64, 65, workers - 1, workers, workers + 1} {
				newErrs(t, small(), j, workers, w)
			}
		}
		for workers := 1; workers <= 64; workers++ {
			for _, w := range []int{-1, -2, workers, workers + 1, 2 * workers, 64, 1 << 32, 1<<32 + 1, math.MinInt, math.MaxInt} {
				newErrs(t, small(), j, workers, w)
			}
		}
	}
}

// The rules: what is handed in stays as it is, its spare room too, and isn't
// kept: what becomes of it later doesn't matter to the worker.
func TestHandedIn(t *testing.T) {
	for _, tag := range tags() {
		edges := append(small().Edges, edge(9, 9, 9), edge(8, 8, 8))
		was := slices.Clone(edges)
		j := job(tag, 0, 4)
		k := made(t, of(7, edges[:8]...), j, 1, 0)
		other := made(t, small(), j, 1, 0)
		if !slices.Equal(edges, was) {
			t.Fatalf("%s: %v became %v", tag, was, edges)
		}
		for i := range edges {
			edges[i] = edge(5, 5, 5)
		}
		for at := range 4 {
			in := []api.Msg{msg(3, 6, 9), msg(2, 1, 4), msg(0, 1, 4), msg(0, 0, 8), msg(5, 5, 5)}
			wasIn := slices.Clone(in)
			r, want := k.Do(at, in[:3]), other.Do(at, wasIn[:3])
			if !slices.Equal(in, wasIn) {
				t.Fatalf("%s: %v became %v", tag, wasIn, in)
			}
			for i := range in {
				in[i] = msg(-7, -7, -7)
			}
			if !alike(r, want) {
				t.Errorf("%s, step %d: %v, not %v", tag, at, r, want)
			}
			if l := other.Vertices(); !slices.Equal(k.Vertices(), l) {
				t.Errorf("%s, step %d: %v, not %v", tag, at, k.Vertices(), l)
			}
		}
	}
}

// The rules: what is handed out is new memory, which is neither the worker's nor
// that of another answer.
func TestHandedOut(t *testing.T) {
	for _, tag := range tags() {
		k := made(t, small(), job(tag, 0, 4), 2, 0)
		ahead := k.Vertices()
		spoil(k.Vertices(), on(-7, -7))
		is(t, k, 0, ahead, nil)
		r := k.Do(0, nil)
		spoil(r.Batches, "spoilt")
		l := k.Vertices()
		spoil(k.Vertices(), on(-7, -7))
		is(t, k, 1, l, ahead)
		for place := range l {
			o, _ := k.Open(place)
			was := slices.Clone(o.NowProof)
			spoil(o.PrevProof, api.Hash{7})
			if !slices.Equal(o.NowProof, was) {
				t.Errorf("%s, place %d: both proofs share memory", tag, place)
			}
			spoil(o.NowProof, api.Hash{7})
			is(t, k, 1, l, ahead)
		}
		// Of two workers neither has what the other one has.
		first, second := made(t, small(), job(tag, 0, 4), 1, 0), made(t, small(), job(tag, 0, 4), 1, 0)
		was := first.Vertices()
		second.Do(0, []api.Msg{msg(0, 1, 5)})
		is(t, first, 0, was, nil)
	}
}

// spoil sets all that a list has to one value, its spare room too.
func spoil[T any](l []T, x T) {
	l = l[:cap(l)]
	for i := range l {
		l[i] = x
	}
}
