package worker_test

import (
	"cmp"
	"math/rand/v2"
	"slices"
	"testing"

	"modillion/api"
	"modillion/batch"
	"modillion/seq"
	"modillion/worker"
)

// crew is all workers of a job.
func crew(t *testing.T, g api.Graph, j api.Job, workers int) []*worker.Worker {
	t.Helper()
	var l []*worker.Worker
	for w := range workers {
		l = append(l, made(t, g, j, workers, w))
	}
	return l
}

// together is a step of all workers, to each of whom comes what they were sent:
// all that they send, for each one, and the first error, if there is one.
func together(t *testing.T, all []*worker.Worker, at int, came [][]api.Msg) ([][]api.Msg, api.Errno) {
	t.Helper()
	next := make([][]api.Msg, len(all))
	var first api.Errno
	for w, k := range all {
		r := k.Do(at, came[w])
		first = cmp.Or(first, r.Err)
		for to, s := range r.Batches {
			l, e := batch.Get(s)
			if e != api.OK {
				t.Fatalf("step %d, from %d to %d: %q, %d", at, w, to, s, e)
			}
			next[to] = append(next[to], l...)
		}
	}
	return next, first
}

// vertices is those of all workers, by their IDs.
func vertices(all []*worker.Worker) []api.Vertex {
	var l []api.Vertex
	for _, k := range all {
		l = append(l, k.Vertices()...)
	}
	slices.SortFunc(l, func(a, b api.Vertex) int { return cmp.Compare(a.ID, b.ID) })
	return l
}

// asleep is vertices as they would be if nothing had come to them.
func asleep(l []api.Vertex) []api.Vertex {
	l = slices.Clone(l)
	for i := range l {
		l[i].Has, l[i].In = false, 0
	}
	return l
}

// inOrder is messages as chapter 8 puts them in order.
func inOrder(parts [][]api.Msg) []api.Msg {
	l := slices.Concat(parts...)
	slices.SortFunc(l, func(a, b api.Msg) int { return cmp.Or(cmp.Compare(a.To, b.To), cmp.Compare(a.From, b.From)) })
	return l
}

// goOn holds all steps of so many workers to chapter 9's, and tells how many were
// done, and whether an error ended them. Each worker is made anew of what he
// saved, now and then.
func goOn(t *testing.T, r *rand.Rand, g api.Graph, j api.Job, workers int) (int, bool) {
	t.Helper()
	all, came := crew(t, g, j, workers), make([][]api.Msg, workers)
	l, _ := seq.Start(g, j)
	// What comes to a vertex too great is chapter 9's error in the step in which it
	// is sent, and the worker's in the next one.
	late := false
	for at := range j.Steps {
		next, sent, e := seq.Next(g, j, at, l)
		parts, f := together(t, all, at, came)
		if late && f != api.ErrProgFlow {
			t.Errorf("%v, %v, %d workers, step %d: %d, not %d", g, j, workers, at, f, api.ErrProgFlow)
		}
		if late || f != api.OK {
			if !late && e != f {
				t.Errorf("%v, %v, %d workers, step %d: %d, not %d", g, j, workers, at, f, e)
			}
			return at, true
		}
		if late = e != api.OK; late {
			came = parts
			continue
		}
		if got := vertices(all); !slices.Equal(got, asleep(next)) {
			t.Errorf("%v, %v, %d workers, step %d: %v, not %v", g, j, workers, at, got, asleep(next))
		}
		if got := inOrder(parts); !slices.Equal(got, sent) {
			t.Errorf("%v, %v, %d workers, step %d: %v was sent, not %v", g, j, workers, at, got, sent)
		}
		l, came = next, parts
		for w, k := range all {
			r.Shuffle(len(came[w]), func(a, b int) { came[w][a], came[w][b] = came[w][b], came[w][a] })
			if r.IntN(4) == 0 {
				all[w] = made(t, g, j, workers, w)
				loadIs(t, all[w], k.Save(), at+1, k.Vertices())
			}
		}
	}
	values, _, e := seq.Run(g, j)
	if got := seq.Values(vertices(all)); !late && (!slices.Equal(got, values) || e != api.OK) {
		t.Errorf("%v, %v, %d workers: %v, not %v, %d", g, j, workers, got, values, e)
	}
	return j.Steps, late
}

// P13.5: all workers together do what chapter 9 does, of jobs of each program, one,
// two and several of them.
func TestTogether(t *testing.T) {
	r := rand.New(rand.NewPCG(13, 5))
	for _, workers := range []int{1, 2, 3, 7, 64} {
		for _, tag := range tags() {
			for _, steps := range []int{1, 2, 9, 64} {
				if workers == 64 && steps == 64 && tag != "rank" {
					continue // these take long, and nothing is left to do in most of the steps
				}
				if at, ended := goOn(t, r, small(), job(tag, 3, steps), workers); at != steps || ended {
					t.Errorf("%s, %d workers: ended at %d of %d", tag, workers, at, steps)
				}
				goOn(t, r, of(1), job(tag, 0, steps), workers)
				goOn(t, r, of(2, edge(0, 0, 1), edge(0, 1, 1), edge(1, 0, 0)), job(tag, 1, steps), workers)
				goOn(t, r, of(64), job(tag, 63, min(steps, 3)), workers)
			}
		}
	}
}

// P13.5: of any graphs and jobs.
func TestTogetherAny(t *testing.T) {
	for seed := range uint64(250) {
		r := rand.New(rand.NewPCG(seed, 16))
		g := someGraph(r, []int{1, 2, 3, 5, 9, 20, 64}[r.IntN(7)], 1+r.IntN(5))
		j := job(tags()[seed%7], r.IntN(g.N), []int{1, 2, 3, 5, 8, 12}[r.IntN(6)])
		goOn(t, r, g, j, []int{1, 2, 3, 5, 64}[r.IntN(5)])
	}
}

// P13.5: jobs that end by a value that is too great: in the step in which it is
// told by chapter 9, or, if it is what comes to a vertex, in the next one.
func TestTogetherEnds(t *testing.T) {
	ends := 0
	for seed := range uint64(40) {
		r := rand.New(rand.NewPCG(seed, 18))
		g := someGraph(r, 3+r.IntN(20), 1+r.IntN(2))
		if _, ended := goOn(t, r, g, job("walks", 0, 64), 1+r.IntN(4)); ended {
			ends++
		}
	}
	if ends < 30 {
		t.Errorf("%d ended", ends)
	}
}

// P13.5: in whatever order the edges are, and messages come, the answers are the
// same.
func TestTogetherMixed(t *testing.T) {
	for seed := range uint64(60) {
		r := rand.New(rand.NewPCG(seed, 17))
		g := someGraph(r, 2+r.IntN(9), 1+r.IntN(3))
		other := of(g.N, slices.Clone(g.Edges)...)
		slices.Reverse(other.Edges)
		j, workers := job(tags()[seed%7], r.IntN(g.N), 4), 1+r.IntN(4)
		one, two := crew(t, g, j, workers), crew(t, other, j, workers)
		came := make([][]api.Msg, workers)
		for at := range j.Steps {
			for w := range workers {
				turned := slices.Clone(came[w])
				slices.Reverse(turned)
				doIs(t, two[w], at, turned, loadedCopy(t, g, j, workers, w, one[w]).Do(at, came[w]))
			}
			came, _ = together(t, one, at, came)
		}
	}
}

// loadedCopy is a worker who goes on from what another one saved.
func loadedCopy(t *testing.T, g api.Graph, j api.Job, workers, w int, k *worker.Worker) *worker.Worker {
	t.Helper()
	return loaded(t, g, j, workers, w, k.Step(), k.Vertices()...)
}
