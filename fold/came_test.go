package fold_test

import (
	"math"
	"math/rand/v2"
	"slices"
	"testing"

	"modillion/api"
	"modillion/fold"
)

// tags is the seven programs.
func tags() []string {
	return []string{"max", "label", "sssp", "bfs", "degree", "rank", "walks"}
}

// noTags is names of no program.
func noTags() []string {
	return []string{"", "no", "Max", "max ", " max", "maxx", "ma", "labels", "dfs", "rank\x00", "walk", "max,label", "é"}
}

// values is messages to a vertex of these values, in order by their From.
func values(to int, l ...int64) []api.Msg {
	var out []api.Msg
	for i, n := range l {
		out = append(out, msg(i, to, n))
	}
	return out
}

// cameIs holds what came to a vertex to a value.
func cameIs(t *testing.T, tag string, l []api.Msg, v int, want int64) {
	t.Helper()
	if n, is, e := fold.Came(tag, l, v); n != want || !is || e != api.OK {
		t.Errorf("%s, %v to %d: %d, %t, %d, not %d", tag, l, v, n, is, e, want)
	}
}

// cameErrs holds it to an error, with nought and false beside it (P1).
func cameErrs(t *testing.T, tag string, l []api.Msg, v int, want api.Errno) {
	t.Helper()
	if n, is, e := fold.Came(tag, l, v); n != 0 || is || e != want {
		t.Errorf("%s, %v to %d: %d, %t, %d, not %d", tag, l, v, n, is, e, want)
	}
}

// P8.2, Came: worked out beside the program, of one message and of several, of
// values below 0, of the greatest and the least, and of one value twice.
func TestCameExamples(t *testing.T) {
	for _, x := range []struct {
		l                     []int64
		most, least, together int64
	}{
		{[]int64{3, 5, 4}, 5, 3, 12},
		{[]int64{7}, 7, 7, 7},
		{[]int64{0}, 0, 0, 0},
		{[]int64{-7}, -7, -7, -7},
		{[]int64{great}, great, great, great},
		{[]int64{-great}, -great, -great, -great},
		{[]int64{4, 4}, 4, 4, 8},
		{[]int64{-2, -9}, -2, -9, -11},
		{[]int64{5, -5}, 5, -5, 0},
		{[]int64{9, 1, 1, 1, 2}, 9, 1, 14},
		{[]int64{great, -great}, great, -great, 0},
		{[]int64{great, -1, 1}, great, -1, great},
		{[]int64{great, -great, great, -great, -great}, great, -great, -great},
		{[]int64{great - 1, 1}, great - 1, 1, great},
	} {
		for i, want := range []int64{x.most, x.least, x.least, x.least, x.together, x.together, x.together} {
			for _, to := range []int{0, 1, 63, 64, -1, math.MinInt, math.MaxInt} {
				cameIs(t, tags()[i], values(to, x.l...), to, want)
			}
		}
	}
}

// P8.2, Came: the same message twice counts twice, and those to others don't
// count, be they too great.
func TestCameAmongOthers(t *testing.T) {
	l := list(msg(2, 1, 5), msg(1, 0, 100), msg(0, 1, 9), msg(1, 2, -100), msg(0, 1, 3), msg(0, 1, 3), msg(1, 7, great+1), msg(1, -1, math.MinInt64))
	for i, want := range []int64{9, 3, 3, 3, 20, 20, 20} {
		cameIs(t, tags()[i], l, 1, want)
		cameIs(t, tags()[i], l, 0, 100)
		cameIs(t, tags()[i], l, 2, -100)
		cameErrs(t, tags()[i], l, 7, api.ErrProgFlow)
		cameErrs(t, tags()[i], l, -1, api.ErrProgFlow)
	}
}

// P8.2, Came: of no message to a vertex 0 and false, whatever goes to others.
func TestCameNone(t *testing.T) {
	for _, tag := range tags() {
		for _, l := range [][]api.Msg{nil, {}, {msg(1, 0, 5)}, {msg(1, 0, great+1)}, {msg(2, 3, 5), msg(2, -1, 5), msg(2, 2, 5)}} {
			cameErrs(t, tag, l, 1, api.OK)
			cameErrs(t, tag, l, -2, api.OK)
			cameErrs(t, tag, l, math.MaxInt, api.OK)
		}
	}
}

// P8.2 and P1, Came: a tag that isn't known, with messages to the vertex and
// without, and ahead of a value that is too great.
func TestCameUnknown(t *testing.T) {
	for _, tag := range noTags() {
		for _, l := range [][]api.Msg{nil, {}, values(1, 5), values(1, 5, 6), values(0, 5), values(1, great+1), values(1, 5, great+1), values(1, great, 1)} {
			cameErrs(t, tag, l, 1, api.ErrProgJob)
		}
	}
}

// P8.2 and P1, Came: one message alone whose value is too great, and one of
// several, be it one that the program wouldn't keep.
func TestCameFlow(t *testing.T) {
	for _, tag := range tags() {
		for _, n := range []int64{great + 1, great + 2, 1 << 51, math.MaxInt64, -great - 1, -great - 2, -1 << 51, math.MinInt64} {
			cameErrs(t, tag, values(1, n), 1, api.ErrProgFlow)
			cameErrs(t, tag, values(1, n, n), 1, api.ErrProgFlow)
			cameErrs(t, tag, values(1, n, -n), 1, api.ErrProgFlow)
			for i := range 4 {
				l := slices.Insert([]int64{0, 3, -3}, i, n)
				cameErrs(t, tag, values(1, l...), 1, api.ErrProgFlow)
			}
		}
	}
}

// P8.2 and P1, Came: each may be, and on the way, in order, they are too great
// together; a later one doesn't bring them back. Those that don't add them up
// don't mind.
func TestCameFlowTogether(t *testing.T) {
	for _, l := range [][]int64{
		{great, 1},
		{great, 1, -1},
		{great, 1, -great},
		{great / 2, great / 2, 1, -great},
		{-great, -1, 1},
		{-great, -great, great, great},
		{5, great, -great},
		{-great / 2, -great/2 - 1, great},
	} {
		for _, tag := range []string{"degree", "rank", "walks"} {
			cameErrs(t, tag, values(1, l...), 1, api.ErrProgFlow)
		}
		for _, tag := range []string{"label", "sssp", "bfs"} {
			cameIs(t, tag, values(1, l...), 1, slices.Min(l))
		}
		cameIs(t, "max", values(1, l...), 1, slices.Max(l))
	}
}

// P8.2, Came: it goes by the order of messages, not by that in which they come:
// the least of From first, of the same From the least of Val.
func TestCameInOrder(t *testing.T) {
	right := list(msg(0, 1, great), msg(1, 1, -1), msg(2, 1, 1), msg(3, 1, -great))
	wrong := list(msg(0, 1, great), msg(1, 1, 1), msg(2, 1, -1), msg(3, 1, -great))
	// Of one From the least comes first, so these are never too great together.
	alike := list(msg(0, 1, -great), msg(0, 1, 1), msg(0, 1, great-1), msg(0, 1, great))
	sums := []string{"degree", "rank", "walks"}
	for seed := range uint64(50) {
		for _, tag := range sums {
			cameIs(t, tag, mixed(seed, right), 1, 0)
			cameErrs(t, tag, mixed(seed, wrong), 1, api.ErrProgFlow)
			cameIs(t, tag, mixed(seed, alike), 1, great)
		}
	}
}

// P8.3: in whatever order messages come, they come to the same, errors too.
func TestCameAnyOrder(t *testing.T) {
	errs := 0
	for seed := range uint64(300) {
		r := rand.New(rand.NewPCG(seed, 12))
		var l []api.Msg
		for range r.IntN(12) {
			l = append(l, msg(r.IntN(4), r.IntN(3), r.Int64N(great)-great/2))
		}
		for _, tag := range tags() {
			n, is, e := fold.Came(tag, l, 1)
			if e != api.OK {
				errs++
			}
			for again := range uint64(10) {
				if m, was, f := fold.Came(tag, mixed(again, l), 1); m != n || was != is || f != e {
					t.Errorf("%s, seed %d: %d, %t, %d, not %d, %t, %d", tag, seed, m, was, f, n, is, e)
				}
			}
		}
	}
	if errs == 0 {
		t.Error("none was ever too great")
	}
}

// P8.2, Came: some of all kinds, held against what is most, least and together.
func TestCameModel(t *testing.T) {
	for seed := range uint64(500) {
		r := rand.New(rand.NewPCG(seed, 13))
		var l []api.Msg
		var own []int64
		together := int64(0)
		for range 1 + r.IntN(40) {
			m := msg(r.IntN(64), r.IntN(3), r.Int64N(great/32)-great/64)
			if l = append(l, m); m.To == 2 {
				own = append(own, m.Val)
				together += m.Val
			}
		}
		if len(own) == 0 {
			cameErrs(t, "rank", l, 2, api.OK)
			continue
		}
		most, least := slices.Max(own), slices.Min(own)
		for i, want := range []int64{most, least, least, least, together, together, together} {
			cameIs(t, tags()[i], l, 2, want)
		}
	}
}
