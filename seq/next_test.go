package seq_test

import (
	"cmp"
	"math"
	"math/rand/v2"
	"slices"
	"testing"

	"modillion/api"
	"modillion/prog"
	"modillion/seq"
)

// nextIs holds Next to vertices, and to what was sent, in order.
func nextIs(t *testing.T, g api.Graph, j api.Job, at int, l, want []api.Vertex, wantSent []api.Msg) {
	t.Helper()
	next, sent, e := seq.Next(g, j, at, l)
	if !slices.Equal(next, want) || !slices.Equal(sent, wantSent) || e != api.OK {
		t.Errorf("%v, %v, step %d, %v: %v, %v, %d, not %v, %v", g, j, at, l, next, sent, e, want, wantSent)
	}
}

// nextErrs holds Next to an error, with nothing beside it (P1).
func nextErrs(t *testing.T, g api.Graph, j api.Job, at int, l []api.Vertex, want api.Errno) {
	t.Helper()
	if next, sent, e := seq.Next(g, j, at, l); len(next) > 0 || len(sent) > 0 || e != want {
		t.Errorf("%v, %v, step %d, %v: %v, %v, %d, not %d", g, j, at, l, next, sent, e, want)
	}
}

// P9.1, Next: each step of a job, worked out beside the program. Behind step 1
// what 1 sends to 3 is told behind what 2 sends to 1.
func TestNextSssp(t *testing.T) {
	j := job("sssp", 0, 9)
	l := [][]api.Vertex{
		{on(0, 0), on(1, -1), on(2, -1), on(3, -1), on(4, -1)},
		{off(0, 0), got(1, -1, 7), got(2, -1, 1), off(3, -1), off(4, -1)},
		{off(0, 0), got(1, 7, 3), off(2, 1), got(3, -1, 11), off(4, -1)},
		{got(0, 0, 21), off(1, 3), off(2, 1), got(3, 11, 7), off(4, -1)},
		{got(0, 0, 17), off(1, 3), off(2, 1), off(3, 7), off(4, -1)},
		{off(0, 0), off(1, 3), off(2, 1), off(3, 7), off(4, -1)},
	}
	sent := [][]api.Msg{
		{msg(0, 1, 7), msg(0, 2, 1)},
		{msg(2, 1, 3), msg(1, 3, 11)},
		{msg(3, 0, 21), msg(1, 3, 7)},
		{msg(3, 0, 17)},
		nil,
	}
	for at := range sent {
		nextIs(t, small(), j, at, l[at], l[at+1], sent[at])
	}
	nextIs(t, small(), j, 5, l[5], l[5], nil)
}

// P9.1, Next: what came is folded by the job's program, of several to one too.
func TestNextFolds(t *testing.T) {
	five := func(value func(v int) int64) []api.Vertex {
		var l []api.Vertex
		for v := range 5 {
			l = append(l, on(v, value(v)))
		}
		return l
	}
	same := func(n int64) func(int) int64 { return func(int) int64 { return n } }
	nextIs(t, small(), job("max", 0, 2), 0, []api.Vertex{on(0, 11), on(1, 48), on(2, 21), on(3, 58), on(4, 31)},
		[]api.Vertex{got(0, 11, 58), got(1, 48, 21), got(2, 21, 11), got(3, 58, 48), off(4, 31)},
		[]api.Msg{msg(3, 0, 58), msg(0, 1, 11), msg(2, 1, 21), msg(0, 2, 11), msg(1, 3, 48), msg(4, 3, 31)})
	nextIs(t, small(), job("label", 0, 2), 0, five(func(v int) int64 { return int64(v) }),
		[]api.Vertex{got(0, 0, 3), got(1, 1, 0), got(2, 2, 0), got(3, 3, 1), off(4, 4)},
		[]api.Msg{msg(3, 0, 3), msg(0, 1, 0), msg(2, 1, 2), msg(0, 2, 0), msg(1, 3, 1), msg(4, 3, 4)})
	ones := []api.Msg{msg(3, 0, 1), msg(0, 1, 1), msg(2, 1, 1), msg(0, 2, 1), msg(1, 3, 1), msg(4, 3, 1)}
	nextIs(t, small(), job("degree", 0, 2), 0, five(same(0)), []api.Vertex{got(0, 0, 1), got(1, 0, 2), got(2, 0, 1), got(3, 0, 2), off(4, 0)}, ones)
	nextIs(t, small(), job("walks", 0, 2), 0, five(same(1)), []api.Vertex{got(0, 1, 1), got(1, 1, 2), got(2, 1, 1), got(3, 1, 2), off(4, 1)}, ones)
	nextIs(t, small(), job("bfs", 4, 2), 0, []api.Vertex{on(0, -1), on(1, -1), on(2, -1), on(3, -1), on(4, 0)},
		[]api.Vertex{off(0, -1), off(1, -1), off(2, -1), got(3, -1, 1), off(4, 0)}, []api.Msg{msg(4, 3, 1)})
	nextIs(t, small(), job("rank", 0, 2), 0, five(same(65536)),
		[]api.Vertex{both(0, 65536, 65536), both(1, 65536, 98304), both(2, 65536, 32768), both(3, 65536, 131072), on(4, 65536)},
		[]api.Msg{msg(3, 0, 65536), msg(0, 1, 32768), msg(2, 1, 65536), msg(0, 2, 32768), msg(1, 3, 65536), msg(4, 3, 65536)})
	// In the last step of rank nothing is sent.
	nextIs(t, small(), job("rank", 0, 1), 0, five(same(65536)), []api.Vertex{off(0, 65536), off(1, 65536), off(2, 65536), off(3, 65536), off(4, 65536)}, nil)
}

// P9.1, Next: where nothing came Has is false and In 0, whatever they were ahead
// of the step, and whether or not the vertex had something to do.
func TestNextNothingCame(t *testing.T) {
	for _, tag := range tags() {
		for _, n := range []int64{0, 5, -5, great, -great} {
			next, sent, e := seq.Next(of(3), job(tag, 0, 3), 2, []api.Vertex{{ID: 0, Value: 4, In: n}, {ID: 1, Active: true, In: n}, got(2, 9, 5)})
			if len(next) != 3 || len(sent) > 0 || e != api.OK {
				t.Errorf("%s, %d: %v, %v, %d", tag, n, next, sent, e)
			}
			for _, x := range next {
				if x.Has || x.In != 0 {
					t.Errorf("%s, %d: %v", tag, n, x)
				}
			}
		}
	}
	nextIs(t, of(1), job("max", 0, 1), 0, []api.Vertex{{Value: 3, In: 8}}, []api.Vertex{off(0, 3)}, nil)
	// That what came is 0 isn't that nothing came.
	nextIs(t, of(2, edge(0, 1, 0)), job("sssp", 0, 1), 0, []api.Vertex{on(0, 0), on(1, -1)}, []api.Vertex{off(0, 0), got(1, -1, 0)}, []api.Msg{msg(0, 1, 0)})
}

// P9.1, Next: edges from a vertex to itself, one vertex alone, and 64 of them.
func TestNextEnds(t *testing.T) {
	self := of(1, edge(0, 0, 6))
	nextIs(t, self, job("walks", 0, 64), 0, []api.Vertex{on(0, 1)}, []api.Vertex{got(0, 1, 1)}, []api.Msg{msg(0, 0, 1)})
	nextIs(t, self, job("walks", 0, 64), 63, []api.Vertex{got(0, 5, 1)}, []api.Vertex{got(0, 6, 1)}, []api.Msg{msg(0, 0, 1)})
	nextIs(t, self, job("sssp", 0, 1), 0, []api.Vertex{on(0, 0)}, []api.Vertex{got(0, 0, 6)}, []api.Msg{msg(0, 0, 6)})
	nextIs(t, of(1), job("bfs", 0, 1), 0, []api.Vertex{on(0, 0)}, []api.Vertex{off(0, 0)}, nil)
	var l, want []api.Vertex
	var edges []api.Edge
	var sent []api.Msg
	for v := range 64 {
		l, want = append(l, on(v, int64(v))), append(want, got(v, int64(v), int64(63-v)))
		edges = append(edges, edge(v, 63-v, 0))
		sent = append(sent, msg(63-v, v, int64(63-v)))
	}
	nextIs(t, of(64, edges...), job("label", 0, 1), 0, l, want, sent)
}

// P9.1, Next: a step may be asked for of vertices that no step before led to.
func TestNextOfAny(t *testing.T) {
	nextIs(t, small(), job("max", 0, 3), 2, []api.Vertex{got(0, 5, 9), on(1, 48), {ID: 2, Value: 7, In: 99}, both(3, -2, -3), got(4, -8, -7)},
		[]api.Vertex{off(0, 9), got(1, 48, 9), got(2, 7, 9), got(3, -2, -7), off(4, -7)},
		[]api.Msg{msg(0, 1, 9), msg(0, 2, 9), msg(4, 3, -7)})
}

// P9.1 and P1, Next: ErrProgJob, whether the vertices may be or not.
func TestNextWrongJob(t *testing.T) {
	first, _ := seq.Start(small(), job("max", 0, 3))
	wrong := [][]api.Vertex{nil, {}, first, first[1:], {on(0, great+1)}, make([]api.Vertex, 5), make([]api.Vertex, 65)}
	for _, x := range wrongJobs() {
		for _, l := range wrong {
			for _, at := range []int{0, -1, 1} {
				nextErrs(t, x.g, x.j, at, l, api.ErrProgJob)
			}
		}
	}
	for _, tag := range tags() {
		for _, steps := range []int{1, 2, 3, 64} {
			for _, at := range []int{-1, -2, -64, math.MinInt, steps, steps + 1, 64, 65, 1 << 32, math.MaxInt} {
				for _, l := range wrong {
					nextErrs(t, small(), job(tag, 0, steps), at, l, api.ErrProgJob)
				}
			}
		}
	}
}

// P9.1 and P1, Next: ErrSeqForm, ahead of a value that is too great.
func TestNextWrongVertices(t *testing.T) {
	l := []api.Vertex{off(0, 1), on(1, 2), got(2, 3, 4), both(3, 5, 6), off(4, 7)}
	var wrong [][]api.Vertex
	wrong = append(wrong, nil, []api.Vertex{}, make([]api.Vertex, 5), append(slices.Clone(l), off(5, 0)), append(slices.Clone(l), off(4, 7)))
	for i := range l {
		wrong = append(wrong, slices.Delete(slices.Clone(l), i, i+1), l[:i], slices.Insert(slices.Clone(l), i, l[i]))
		for _, id := range []int{-1, (i + 1) % 5, 5, 64, i + 1<<32, math.MaxInt, math.MinInt} {
			some := slices.Clone(l)
			some[i].ID = id
			wrong = append(wrong, some)
		}
		some := slices.Clone(l)
		k := (i + 1) % 5
		some[i], some[k] = some[k], some[i]
		wrong = append(wrong, some)
	}
	turned := slices.Clone(l)
	slices.Reverse(turned)
	for _, some := range append(wrong, turned) {
		for _, tag := range tags() {
			nextErrs(t, small(), job(tag, 0, 3), 0, some, api.ErrSeqForm)
			nextErrs(t, small(), job(tag, 4, 64), 63, some, api.ErrSeqForm)
		}
		for i := range some {
			flow := slices.Clone(some)
			flow[i].Value = great + 1
			nextErrs(t, small(), job("max", 0, 3), 1, flow, api.ErrSeqForm)
		}
	}
}

// P9.1 and P1, Next: ErrProgFlow, where a Value or an In is too great, of
// whichever vertex, whether it has something to do or not.
func TestNextFlow(t *testing.T) {
	for _, tag := range tags() {
		for v := range 5 {
			for _, n := range []int64{great + 1, great + 2, math.MaxInt64, -great - 1, -great - 2, math.MinInt64} {
				for i := range 4 {
					l := []api.Vertex{off(0, 1), on(1, 2), got(2, 3, 4), both(3, 5, 6), off(4, 7)}
					l[v] = api.Vertex{ID: v, Value: n, Active: i&1 > 0, Has: i&2 > 0}
					nextErrs(t, small(), job(tag, 0, 3), 2, l, api.ErrProgFlow)
					l[v] = api.Vertex{ID: v, In: n, Active: i&1 > 0, Has: i&2 > 0}
					nextErrs(t, small(), job(tag, 0, 3), 2, l, api.ErrProgFlow)
				}
			}
		}
	}
}

// P9.1 and P1, Next: a Value that is too great behind the step, one that is sent
// so, and several that are too great together where they come, to the first
// vertex and to the last one, in a job's last step too.
func TestNextFlowBehind(t *testing.T) {
	nextErrs(t, of(2), job("walks", 0, 3), 1, []api.Vertex{off(0, 1), got(1, great, 1)}, api.ErrProgFlow)
	nextIs(t, of(2), job("walks", 0, 3), 1, []api.Vertex{off(0, 1), got(1, great-1, 1)}, []api.Vertex{off(0, 1), off(1, great)}, nil)
	nextErrs(t, of(2, edge(1, 0, 1)), job("sssp", 0, 3), 1, []api.Vertex{off(0, 1), got(1, -1, great)}, api.ErrProgFlow)
	nextIs(t, of(2, edge(1, 0, 1)), job("bfs", 0, 3), 1, []api.Vertex{off(0, 1), got(1, -1, great-1)}, []api.Vertex{got(0, 1, great), off(1, great-1)}, []api.Msg{msg(1, 0, great)})
	for _, to := range []int{0, 3} {
		g := of(4, edge(1, to, 0), edge(2, to, 0))
		for _, at := range []int{1, 2} {
			for _, n := range []int64{1, -1} {
				nextErrs(t, g, job("walks", 0, 3), at, []api.Vertex{off(0, 1), got(1, 0, n*great), got(2, 0, n), off(3, 1)}, api.ErrProgFlow)
				want := []api.Vertex{off(0, 1), off(1, n*(great-1)), off(2, n), off(3, 1)}
				want[to] = got(to, 1, n*great)
				nextIs(t, g, job("walks", 0, 3), at, []api.Vertex{off(0, 1), got(1, 0, n*(great-1)), got(2, 0, n), off(3, 1)}, want, []api.Msg{msg(1, to, n*(great-1)), msg(2, to, n)})
			}
		}
		// The program that keeps the greater one doesn't mind.
		want := []api.Vertex{off(0, 1), off(1, great), off(2, 1), off(3, 1)}
		want[to] = got(to, 1, great)
		nextIs(t, g, job("max", 0, 3), 2, []api.Vertex{off(0, 1), got(1, 0, great), got(2, 0, 1), off(3, 1)}, want, []api.Msg{msg(1, to, great), msg(2, to, 1)})
	}
	// What comes to 0 is too great, and so is the Value of 3: that of the steps is told first.
	nextErrs(t, of(4, edge(1, 0, 0), edge(2, 0, 0)), job("walks", 0, 3), 1, []api.Vertex{off(0, 1), got(1, 0, great), got(2, 0, 1), off(3, great+1)}, api.ErrProgFlow)
}

// folded is what came to a vertex, by chapter 7's words, worked out beside the
// program; false: it is too great on the way.
func folded(tag string, l []api.Msg, v int) (api.Vertex, bool) {
	var x api.Vertex
	for _, m := range l {
		switch {
		case m.To != v:
			continue
		case !x.Has:
			x.In = m.Val
		case tag == "max":
			x.In = max(x.In, m.Val)
		case tag == "label" || tag == "sssp" || tag == "bfs":
			x.In = min(x.In, m.Val)
		default:
			x.In += m.Val
		}
		x.Has = true
		if x.In > great || x.In < -great {
			return x, false
		}
	}
	return x, true
}

// model is Next by the chapter's words, of vertices that may be.
func model(g api.Graph, j api.Job, at int, l []api.Vertex) ([]api.Vertex, []api.Msg, api.Errno) {
	var next []api.Vertex
	var sent []api.Msg
	for _, x := range l {
		y, some, e := prog.Step(g, j, at, x)
		if e != api.OK {
			return nil, nil, e
		}
		next, sent = append(next, y), append(sent, some...)
	}
	slices.SortFunc(sent, func(a, b api.Msg) int { return cmp.Or(cmp.Compare(a.To, b.To), cmp.Compare(a.From, b.From)) })
	for v := range next {
		x, ok := folded(j.Tag, sent, v)
		if !ok {
			return nil, nil, api.ErrProgFlow
		}
		next[v].Has, next[v].In = x.Has, x.In
	}
	return next, sent, api.OK
}

// P9.1, Next, and P9.3: of any vertices, held against the chapter's words,
// whatever order the edges have.
func TestNextModel(t *testing.T) {
	right, wrong := 0, 0
	for seed := range uint64(3000) {
		r := rand.New(rand.NewPCG(seed, 20))
		g := someGraph(r, 1+r.IntN(9), 1+r.IntN(4))
		steps := 1 + r.IntN(4)
		j, at := job(tags()[r.IntN(7)], r.IntN(g.N), steps), r.IntN(steps)
		value := func() int64 {
			if r.IntN(12) == 0 {
				return []int64{great, -great, great - 3, 3 - great}[r.IntN(4)]
			}
			return r.Int64N(40) - 20
		}
		var l []api.Vertex
		for v := range g.N {
			l = append(l, api.Vertex{ID: v, Value: value(), Active: r.IntN(2) == 0, Has: r.IntN(2) == 0, In: value()})
		}
		want, sent, e := model(g, j, at, l)
		if e != api.OK {
			wrong++
			nextErrs(t, g, j, at, l, e)
			nextErrs(t, mixed(r, g), j, at, l, e)
			continue
		}
		right++
		nextIs(t, g, j, at, l, want, sent)
		nextIs(t, mixed(r, g), j, at, l, want, sent)
	}
	if right < 1000 || wrong < 50 {
		t.Errorf("%d right, %d wrong", right, wrong)
	}
}
