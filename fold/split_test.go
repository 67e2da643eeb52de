package fold_test

import (
	"math"
	"slices"
	"testing"

	"modillion/api"
	"modillion/fold"
	"modillion/part"
)

// splitIs holds Split to lists, those that aren't told being empty.
func splitIs(t *testing.T, workers int, l []api.Msg, want map[int][]api.Msg) {
	t.Helper()
	parts, e := fold.Split(workers, l)
	if len(parts) != workers || e != api.OK {
		t.Fatalf("%d workers, %v: %v, %d", workers, l, parts, e)
	}
	for w, got := range parts {
		if !slices.Equal(got, want[w]) {
			t.Errorf("%d workers, %v: to %d %v, not %v", workers, l, w, got, want[w])
		}
	}
}

// P8.2, Split: worked out beside the program: of two workers the worker 1 has 3,
// 6 and 7, of 64 the worker 20 has 23, 57 and 63, and most have none.
func TestSplitExamples(t *testing.T) {
	l := list(msg(5, 7, 1), msg(0, 0, 4), msg(5, 3, 1), msg(2, 1, 2), msg(1, 3, 9), msg(1, 3, 8), msg(2, 1, 2), msg(9, 6, 0))
	splitIs(t, 1, l, map[int][]api.Msg{
		0: {msg(0, 0, 4), msg(2, 1, 2), msg(2, 1, 2), msg(1, 3, 8), msg(1, 3, 9), msg(5, 3, 1), msg(9, 6, 0), msg(5, 7, 1)},
	})
	splitIs(t, 2, l, map[int][]api.Msg{
		0: {msg(0, 0, 4), msg(2, 1, 2), msg(2, 1, 2)},
		1: {msg(1, 3, 8), msg(1, 3, 9), msg(5, 3, 1), msg(9, 6, 0), msg(5, 7, 1)},
	})
	splitIs(t, 64, list(msg(3, 63, 1), msg(3, 7, 2), msg(3, 23, 3), msg(3, 0, 4), msg(3, 30, 5), msg(3, 57, 6), msg(3, 1, 7)), map[int][]api.Msg{
		0:  {msg(3, 0, 4)},
		20: {msg(3, 23, 3), msg(3, 57, 6), msg(3, 63, 1)},
		34: {msg(3, 1, 7)},
		63: {msg(3, 7, 2), msg(3, 30, 5)},
	})
}

// P8.2, Split: of no messages as many empty lists as there are workers.
func TestSplitNone(t *testing.T) {
	for workers := 1; workers <= api.MaxWorkers; workers++ {
		splitIs(t, workers, nil, nil)
		splitIs(t, workers, list(), nil)
		splitIs(t, workers, list(msg(0, 0, 0)), map[int][]api.Msg{0: {msg(0, 0, 0)}})
	}
}

// P8.2, Split, and P8.3: whose a vertex is, of all that there may be, and of
// numbers above; whatever the From and the Val are, and whatever order they
// come in.
func TestSplit(t *testing.T) {
	var tos []int
	for v := range api.MaxVertices {
		tos = append(tos, v)
	}
	tos = append(tos, 64, 65, 1<<31, 1<<32-1, 1<<32+3, great, math.MaxInt)
	for workers := 1; workers <= api.MaxWorkers; workers++ {
		var l []api.Msg
		want := map[int][]api.Msg{}
		for _, to := range tos {
			w := part.Owner(to, workers)
			for _, from := range []int{math.MinInt, -1, 0, math.MaxInt} {
				for _, val := range []int64{math.MinInt64, 0, 0, great + 1} {
					l = append(l, msg(from, to, val))
					want[w] = append(want[w], msg(from, to, val))
				}
			}
		}
		splitIs(t, workers, l, want)
		for seed := range uint64(3) {
			splitIs(t, workers, mixed(seed, l), want)
		}
	}
}

// P8.2 and P1, Split: ErrFoldForm, and nothing beside it.
func TestSplitWrong(t *testing.T) {
	wrong := func(workers int, l []api.Msg) {
		t.Helper()
		if parts, e := fold.Split(workers, l); len(parts) > 0 || e != api.ErrFoldForm {
			t.Errorf("%d workers, %v: %v, %d", workers, l, parts, e)
		}
	}
	for _, workers := range []int{0, -1, -2, -64, 65, 66, 128, 1 << 32, 1<<32 + 1, math.MinInt, math.MaxInt} {
		for _, l := range [][]api.Msg{nil, {}, {msg(0, 0, 0)}, {msg(0, -1, 0)}} {
			wrong(workers, l)
		}
	}
	right := list(msg(1, 0, 5), msg(1, 2, 5), msg(2, 3, 5))
	for workers := 1; workers <= api.MaxWorkers; workers++ {
		for _, to := range []int{-1, -2, -64, -1 << 32, -1<<32 + 5, math.MinInt, math.MinInt + 1} {
			wrong(workers, list(msg(0, to, 0)))
			for i := range len(right) + 1 {
				wrong(workers, slices.Insert(slices.Clone(right), i, msg(0, to, 0)))
			}
		}
	}
}

// The rules: no two lists of one answer share memory.
func TestSplitOwnMemory(t *testing.T) {
	var l []api.Msg
	for v := range api.MaxVertices {
		l = append(l, msg(0, v, 0), msg(1, v, 1))
	}
	want, _ := fold.Split(7, l)
	for w := range want {
		got, _ := fold.Split(7, l)
		_ = append(got[w], msg(-7, -7, -7), msg(-7, -7, -7), msg(-7, -7, -7))
		for i := range got[w] {
			got[w][i] = msg(-7, -7, -7)
		}
		for other := range got {
			if other != w && !slices.Equal(got[other], want[other]) {
				t.Errorf("%d changed what goes to %d: %v", w, other, got[other])
			}
		}
	}
}
