package prog_test

import (
	"math"
	"math/rand/v2"
	"slices"
	"testing"

	"modillion/api"
	"modillion/prog"
)

// great is the greatest value that may be.
const great = 1 << 50

// tags is the seven programs.
func tags() []string {
	return []string{"max", "label", "sssp", "bfs", "degree", "rank", "walks"}
}

// noTags is names of no program.
func noTags() []string {
	return []string{"", "no", "Max", "MAX", "max ", " max", "maxx", "ma", "lab", "labels", "ssp", "dfs", "bf", "rank\x00", "rank\n", "walk", "degrees", "max,label", "é"}
}

// edge is one, told shortly.
func edge(from, to int, weight int64) api.Edge {
	return api.Edge{From: from, To: to, Weight: weight}
}

// of is a graph of so many vertices.
func of(n int, l ...api.Edge) api.Graph {
	return api.Graph{N: n, Edges: l}
}

// job is one, told shortly.
func job(tag string, source, steps int) api.Job {
	return api.Job{Tag: tag, Source: source, Steps: steps}
}

// noGraphs is graphs that may not be, each of a vertex 0 at least by its looks.
func noGraphs() []api.Graph {
	var many []api.Edge
	for i := range 513 {
		many = append(many, edge(i/64, i%64, 1))
	}
	return []api.Graph{
		{}, of(0), of(-1), of(65), of(math.MaxInt), of(math.MinInt),
		of(64, many...),
		of(2, edge(0, 2, 1)), of(2, edge(2, 0, 1)), of(2, edge(0, -1, 1)), of(2, edge(-1, 0, 1)),
		of(2, edge(0, 1, -1)), of(2, edge(0, 1, 1<<20+1)),
		of(2, edge(0, 1, 3), edge(0, 1, 3)), of(2, edge(0, 1, 3), edge(1, 0, 3), edge(0, 1, 4)),
	}
}

// P7.1, Known: the seven, and what only looks like one of them.
func TestKnown(t *testing.T) {
	for _, tag := range tags() {
		if !prog.Known(tag) {
			t.Errorf("%q isn't known", tag)
		}
	}
	for _, tag := range noTags() {
		if prog.Known(tag) {
			t.Errorf("%q is known", tag)
		}
	}
}

// P7.1, Check: the ends of what a job may be, of each program.
func TestCheck(t *testing.T) {
	for _, tag := range tags() {
		for _, n := range []int{1, 2, 3, 63, 64} {
			for _, source := range []int{0, n / 2, n - 1} {
				for _, steps := range []int{1, 2, 63, 64} {
					if e := prog.Check(of(n, edge(0, n-1, 1<<20)), job(tag, source, steps)); e != api.OK {
						t.Errorf("%s on %d from %d, %d steps: %d", tag, n, source, steps, e)
					}
				}
			}
		}
	}
}

// P7.1, Check: ErrProgJob, whatever of it may not be.
func TestCheckWrong(t *testing.T) {
	type told struct {
		g api.Graph
		j api.Job
	}
	var l []told
	for _, tag := range tags() {
		for _, n := range []int{1, 2, 64} {
			for _, source := range []int{-1, -2, n, n + 1, 65, math.MinInt, math.MaxInt} {
				l = append(l, told{of(n), job(tag, source, 1)}, told{of(n), job(tag, source, 64)})
			}
			for _, steps := range []int{0, -1, 65, 66, 1 << 32, 1<<32 + 1, math.MinInt, math.MaxInt} {
				l = append(l, told{of(n), job(tag, 0, steps)}, told{of(n), job(tag, n-1, steps)})
			}
		}
		for _, g := range noGraphs() {
			l = append(l, told{g, job(tag, 0, 1)})
		}
	}
	for _, tag := range noTags() {
		l = append(l, told{of(1), job(tag, 0, 1)}, told{of(64), job(tag, 63, 64)})
	}
	for _, x := range l {
		if e := prog.Check(x.g, x.j); e != api.ErrProgJob {
			t.Errorf("%v, %v: %d", x.g, x.j, e)
		}
	}
}

// P7.1, First: by the chapter's words, worked out beside the program.
func TestFirstExamples(t *testing.T) {
	for _, x := range []struct {
		tag   string
		v     int
		value int64
	}{
		{"max", 0, 11}, {"max", 1, 48}, {"max", 2, 21}, {"max", 3, 58}, {"max", 5, 4}, {"max", 62, 1}, {"max", 63, 38}, {"max", 64, 11},
		{"label", 0, 0}, {"label", 1, 1}, {"label", 2, 2}, {"label", 63, 63},
		{"sssp", 0, -1}, {"sssp", 1, -1}, {"sssp", 2, 0}, {"sssp", 3, -1}, {"sssp", 63, -1},
		{"bfs", 0, -1}, {"bfs", 1, -1}, {"bfs", 2, 0}, {"bfs", 3, -1}, {"bfs", 63, -1},
		{"degree", 0, 0}, {"degree", 2, 0}, {"degree", 63, 0},
		{"rank", 0, 65536}, {"rank", 2, 65536}, {"rank", 63, 65536},
		{"walks", 0, 1}, {"walks", 2, 1}, {"walks", 63, 1},
	} {
		want := api.Vertex{ID: x.v, Value: x.value, Active: true}
		for _, steps := range []int{0, 1, 64} {
			if got := prog.First(job(x.tag, 2, steps), x.v); got != want {
				t.Errorf("%s, %d: %v, not %v", x.tag, x.v, got, want)
			}
		}
	}
}

// P7.1, First: of each vertex and source that may be.
func TestFirst(t *testing.T) {
	for v := range api.MaxVertices {
		left := int64(37*v + 11)
		for left >= 64 {
			left -= 64
		}
		for source := range api.MaxVertices {
			far := int64(-1)
			if v == source {
				far = 0
			}
			for i, value := range []int64{left, int64(v), far, far, 0, 65536, 1} {
				tag := tags()[i]
				if got := prog.First(job(tag, source, 9), v); got != (api.Vertex{ID: v, Value: value, Active: true}) {
					t.Errorf("%s from %d, %d: %v, not %d", tag, source, v, got, value)
				}
			}
		}
	}
}

// P7.1, First: of a tag that isn't known a zero one.
func TestFirstUnknown(t *testing.T) {
	for _, tag := range noTags() {
		for _, v := range []int{0, 1, 2, 63, -1, math.MaxInt, math.MinInt} {
			if got := prog.First(job(tag, 1, 4), v); got != (api.Vertex{}) {
				t.Errorf("%q, %d: %v", tag, v, got)
			}
		}
	}
}

// P7.2, Fold: by the chapter's words, worked out beside the program.
func TestFoldExamples(t *testing.T) {
	for _, x := range []struct {
		a, b                  int64
		most, least, together int64
	}{
		{0, 0, 0, 0, 0},
		{3, 5, 5, 3, 8},
		{5, 3, 5, 3, 8},
		{-1, 2, 2, -1, 1},
		{2, -1, 2, -1, 1},
		{-7, -3, -3, -7, -10},
		{-3, -7, -3, -7, -10},
		{4, 4, 4, 4, 8},
		{great, 0, great, 0, great},
		{0, -great, 0, -great, -great},
		{great, -1, great, -1, great - 1},
		{1, -great, 1, -great, 1 - great},
		{great, -great, great, -great, 0},
		{-great, great, great, -great, 0},
		{great / 2, great / 2, great / 2, great / 2, great},
		{-great / 2, -great / 2, -great / 2, -great / 2, -great},
		{great - 1, 1, great - 1, 1, great},
	} {
		for i, want := range []int64{x.most, x.least, x.least, x.least, x.together, x.together, x.together} {
			if n, e := prog.Fold(tags()[i], x.a, x.b); n != want || e != api.OK {
				t.Errorf("%s, %d, %d: %d, %d, not %d", tags()[i], x.a, x.b, n, e, want)
			}
		}
	}
}

// P7.2 and P1, Fold: a value that is too great, and nought beside the error.
func TestFoldFlow(t *testing.T) {
	beyond := []int64{great + 1, great + 2, 1 << 51, math.MaxInt64, -great - 1, -great - 2, -1 << 51, math.MinInt64, math.MinInt64 + 1}
	for _, tag := range tags() {
		for _, a := range beyond {
			for _, b := range append([]int64{0, 1, -1, great, -great, -a}, beyond...) {
				for _, x := range [][2]int64{{a, b}, {b, a}} {
					if n, e := prog.Fold(tag, x[0], x[1]); n != 0 || e != api.ErrProgFlow {
						t.Errorf("%s, %v: %d, %d", tag, x, n, e)
					}
				}
			}
		}
	}
}

// P7.2 and P1, Fold: both may be, and together they are too great; those that
// don't add them up don't mind.
func TestFoldFlowTogether(t *testing.T) {
	for _, x := range [][2]int64{{great, 1}, {1, great}, {great, great}, {great/2 + 1, great / 2}, {-great, -1}, {-1, -great}, {-great, -great}, {-great / 2, -great/2 - 1}} {
		for _, tag := range []string{"degree", "rank", "walks"} {
			if n, e := prog.Fold(tag, x[0], x[1]); n != 0 || e != api.ErrProgFlow {
				t.Errorf("%s, %v: %d, %d", tag, x, n, e)
			}
		}
		for _, tag := range []string{"label", "sssp", "bfs"} {
			if n, e := prog.Fold(tag, x[0], x[1]); n != slices.Min(x[:]) || e != api.OK {
				t.Errorf("%s, %v: %d, %d", tag, x, n, e)
			}
		}
		if n, e := prog.Fold("max", x[0], x[1]); n != slices.Max(x[:]) || e != api.OK {
			t.Errorf("max, %v: %d, %d", x, n, e)
		}
	}
}

// P7.2 and P1, Fold: a tag that isn't known is told ahead of values too great.
func TestFoldUnknown(t *testing.T) {
	for _, tag := range noTags() {
		for _, x := range [][2]int64{{0, 0}, {1, 2}, {great, great}, {great + 1, 0}, {0, -great - 1}, {math.MaxInt64, math.MinInt64}} {
			if n, e := prog.Fold(tag, x[0], x[1]); n != 0 || e != api.ErrProgJob {
				t.Errorf("%q, %v: %d, %d", tag, x, n, e)
			}
		}
	}
}

// foldSome folds values that stand anywhere, two by two, till one is left.
func foldSome(t *testing.T, r *rand.Rand, tag string, l []int64) int64 {
	l = slices.Clone(l)
	for len(l) > 1 {
		r.Shuffle(len(l), func(i, j int) { l[i], l[j] = l[j], l[i] })
		n, e := prog.Fold(tag, l[0], l[1])
		if e != api.OK {
			t.Fatalf("%s, %d, %d: %d", tag, l[0], l[1], e)
		}
		l = append(l[2:], n)
	}
	return l[0]
}

// P7.3: in whatever order values are folded, and however, they come to the same.
func TestAnyOrder(t *testing.T) {
	for seed := range uint64(40) {
		r := rand.New(rand.NewPCG(seed, 7))
		var l []int64
		var together int64
		for range 1 + r.IntN(64) {
			n := r.Int64N(great/32) - great/64
			if seed%2 == 0 {
				n = r.Int64N(9) - 4
			}
			l = append(l, n)
			together += n
		}
		most, least := slices.Max(l), slices.Min(l)
		for i, want := range []int64{most, least, least, least, together, together, together} {
			for range 10 {
				if n := foldSome(t, r, tags()[i], l); n != want {
					t.Errorf("%s, seed %d: %d, not %d", tags()[i], seed, n, want)
				}
			}
		}
	}
}
