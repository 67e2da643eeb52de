package worker_test

import (
	"math"
	"slices"
	"testing"

	"modillion/api"
	"modillion/state"
	"modillion/tree"
	"modillion/worker"
)

// opened is an opening by the chapter's words.
func opened(t *testing.T, l, ahead []api.Vertex, place int) api.Opening {
	t.Helper()
	prev, e := tree.Prove(state.Rows(ahead), place)
	now, f := tree.Prove(state.Rows(l), place)
	if e != api.OK || f != api.OK {
		t.Fatalf("%d of %d: %d, %d", place, len(l), e, f)
	}
	return api.Opening{Place: place, Prev: state.Put(ahead[place]), PrevProof: prev, Now: state.Put(l[place]), NowProof: now}
}

// sameOpening is whether two openings are alike.
func sameOpening(a, b api.Opening) bool {
	return a.Place == b.Place && a.Prev == b.Prev && a.Now == b.Now && slices.Equal(a.PrevProof, b.PrevProof) && slices.Equal(a.NowProof, b.NowProof)
}

// opensAs holds Open to a worker's vertices behind the last step, and ahead of it
// (none, if no step was done), of each place, and of those that there are not.
func opensAs(t *testing.T, k *worker.Worker, l, ahead []api.Vertex) {
	t.Helper()
	for place := range ahead {
		want := opened(t, l, ahead, place)
		if o, e := k.Open(place); !sameOpening(o, want) || e != api.OK {
			t.Errorf("place %d: %v, %d, not %v", place, o, e, want)
		}
	}
	for _, place := range []int{-1, len(ahead), len(ahead) + 1, len(l), len(l) + 1} {
		openErrs(t, k, place)
	}
	if len(ahead) == 0 {
		for place := range l {
			openErrs(t, k, place)
		}
	}
}

// openErrs holds Open to ErrTreeIndex, with nothing beside it (P1).
func openErrs(t *testing.T, k *worker.Worker, place int) {
	t.Helper()
	if o, e := k.Open(place); !sameOpening(o, api.Opening{}) || e != api.ErrTreeIndex {
		t.Errorf("place %d: %v, %d", place, o, e)
	}
}

// seen is all that a worker tells of himself.
type seen struct {
	step     int
	vertices []api.Vertex
	root     api.Hash
	saved    string
	openings []api.Opening
	errs     []api.Errno
}

// look asks a worker for all of that.
func look(k *worker.Worker) seen {
	s := seen{step: k.Step(), vertices: k.Vertices(), root: k.Root(), saved: k.Save()}
	for place := range len(s.vertices) + 2 {
		o, e := k.Open(place - 1)
		s.openings, s.errs = append(s.openings, o), append(s.errs, e)
	}
	return s
}

// same is whether a worker told the same twice.
func same(a, b seen) bool {
	return a.step == b.step && slices.Equal(a.vertices, b.vertices) && a.root == b.root && a.saved == b.saved &&
		slices.EqualFunc(a.openings, b.openings, sameOpening) && slices.Equal(a.errs, b.errs)
}

// P13.3, Open: both leaves of each place, written out, behind the first step and
// behind the second one.
func TestOpenExamples(t *testing.T) {
	k := made(t, small(), job("sssp", 0, 4), 2, 0)
	holds := func(prev, now []string) {
		t.Helper()
		for place := range prev {
			o, e := k.Open(place)
			proof, _ := tree.Prove(prev, place)
			nowProof, _ := tree.Prove(now, place)
			if want := (api.Opening{Place: place, Prev: prev[place], Now: now[place], PrevProof: proof, NowProof: nowProof}); !sameOpening(o, want) || e != api.OK {
				t.Errorf("place %d: %v, %d, not %v", place, o, e, want)
			}
		}
		openErrs(t, k, len(prev))
	}
	first := []string{"\x00\x00\x01\x00\x00", "\x01\x01\x01\x00\x00", "\x02\x01\x01\x00\x00", "\x04\x01\x01\x00\x00", "\x05\x01\x01\x00\x00"}
	second := []string{"\x00\x00\x00\x00\x00", "\x01\x01\x00\x00\x00", "\x02\x01\x00\x00\x00", "\x04\x01\x00\x00\x00", "\x05\x01\x00\x00\x00"}
	third := []string{"\x00\x00\x00\x00\x00", "\x01\x0e\x00\x00\x00", "\x02\x02\x00\x00\x00", "\x04\x01\x00\x00\x00", "\x05\x01\x00\x00\x00"}
	k.Do(0, nil)
	holds(first, second)
	k.Do(1, []api.Msg{msg(0, 1, 7), msg(0, 2, 1)})
	holds(second, third)
	// What errs does nothing, so that the last step is still that one.
	k.Do(1, nil)
	k.Do(2, []api.Msg{msg(0, 0, great+1)})
	k.Load("S")
	holds(second, third)
	k.Do(2, nil)
	holds(third, third)
}

// P13.3, Open: each proof proves its leaf in the roots that the worker told ahead
// of the step and behind it.
func TestOpenProves(t *testing.T) {
	for _, n := range []int{1, 2, 3, 5, 8, 33, 64} {
		for _, workers := range []int{1, 2, 5} {
			for _, tag := range tags() {
				g := of(n, edge(0, n-1, 3))
				k := made(t, g, job(tag, n-1, 3), workers, workers-1)
				for at := range 3 {
					was, size := k.Root(), len(k.Vertices())
					k.Do(at, []api.Msg{msg(0, n-1, int64(at)), msg(0, n/2, 100)})
					for place := range size {
						o, e := k.Open(place)
						if e != api.OK || !tree.Check(was, size, place, o.Prev, o.PrevProof) || !tree.Check(k.Root(), size, place, o.Now, o.NowProof) {
							t.Errorf("%s, %d, %d, step %d, place %d: %v, %d", tag, n, workers, at, place, o, e)
						}
					}
				}
			}
		}
	}
}

// P13.3 and P1, Open: ErrTreeIndex of each place ahead of the first step, right
// behind a Load, and of places that there are not.
func TestOpenErrs(t *testing.T) {
	places := []int{-1, -2, 0, 1, 4, 5, 6, 63, 64, 1 << 32, math.MinInt, math.MaxInt}
	for _, tag := range tags() {
		k := made(t, small(), job(tag, 0, 3), 2, 0)
		for _, place := range places {
			openErrs(t, k, place)
		}
		k.Do(0, nil)
		for _, place := range places {
			if place < 0 || place >= 5 {
				openErrs(t, k, place)
			} else if _, e := k.Open(place); e != api.OK {
				t.Errorf("%s, place %d: %d", tag, place, e)
			}
		}
		ahead := k.Vertices()
		k.Load(k.Save())
		for _, place := range places {
			openErrs(t, k, place)
		}
		k.Do(1, nil)
		opensAs(t, k, k.Vertices(), ahead)
	}
	// He who has no vertices has no places, whatever was done.
	k := made(t, of(1), job("max", 0, 3), 2, 1)
	for at := range 3 {
		for _, place := range places {
			openErrs(t, k, place)
		}
		k.Do(at, nil)
	}
}
