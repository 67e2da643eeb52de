package worker_test

import (
	"cmp"
	"math"
	"math/rand/v2"
	"slices"
	"testing"

	"modillion/api"
	"modillion/batch"
	"modillion/commit"
	"modillion/part"
	"modillion/prog"
	"modillion/state"
	"modillion/worker"
)

// alike is whether two replies are.
func alike(a, b api.Reply) bool {
	return a.Err == b.Err && a.Commit == b.Commit && slices.Equal(a.Batches, b.Batches)
}

// folded is what came to a vertex, by chapters 7 and 8, worked out beside the
// program; false: it is too great on the way.
func folded(tag string, l []api.Msg, x api.Vertex) (api.Vertex, bool) {
	var some []api.Msg
	for _, m := range l {
		if m.To == x.ID {
			some = append(some, m)
		}
	}
	slices.SortFunc(some, func(a, b api.Msg) int { return cmp.Or(cmp.Compare(a.From, b.From), cmp.Compare(a.Val, b.Val)) })
	x.Has, x.In = len(some) > 0, 0
	for i, m := range some {
		switch {
		case m.Val > great || m.Val < -great:
			return x, false
		case i == 0:
			x.In = m.Val
		case tag == "max":
			x.In = max(x.In, m.Val)
		case tag == "label" || tag == "sssp" || tag == "bfs":
			x.In = min(x.In, m.Val)
		default:
			x.In += m.Val
		}
		if x.In > great || x.In < -great {
			return x, false
		}
	}
	return x, true
}

// answered is what a worker answers a step by, by the chapter's words, if his
// vertices are so behind it, and he sends this.
func answered(t *testing.T, workers, w, at int, l []api.Vertex, sent []api.Msg) api.Reply {
	t.Helper()
	c := api.Commit{Worker: w, Step: at, Root: state.Root(l)}
	var r api.Reply
	for to := range workers {
		var some []api.Msg
		for _, m := range sent {
			if part.Owner(m.To, workers) == to {
				some = append(some, m)
			}
		}
		s, e := batch.Put(some)
		if e != api.OK {
			t.Fatalf("%v: %d", some, e)
		}
		r.Batches = append(r.Batches, s)
		c.Batches = append(c.Batches, batch.Root(some))
	}
	s, e := commit.Put(c)
	if e != api.OK {
		t.Fatalf("%v: %d", c, e)
	}
	r.Commit = s
	return r
}

// behind is a worker's vertices behind a step, and his answer, by the chapter's
// words; with an error nothing else.
func behind(t *testing.T, g api.Graph, j api.Job, workers, w, at int, l []api.Vertex, in []api.Msg) ([]api.Vertex, api.Reply) {
	t.Helper()
	var next []api.Vertex
	var sent []api.Msg
	for _, x := range l {
		x, ok := folded(j.Tag, in, x)
		if !ok {
			return nil, api.Reply{Err: api.ErrProgFlow}
		}
		next = append(next, x)
	}
	for i, x := range next {
		x, some, e := prog.Step(g, j, at, x)
		if e != api.OK {
			return nil, api.Reply{Err: e}
		}
		next[i], sent = x, append(sent, some...)
	}
	return next, answered(t, workers, w, at, next, sent)
}

// doIs holds Do to an answer.
func doIs(t *testing.T, k *worker.Worker, at int, in []api.Msg, want api.Reply) {
	t.Helper()
	if r := k.Do(at, in); !alike(r, want) {
		t.Errorf("step %d, %v: %q, not %q", at, in, r, want)
	}
}

// doErrs holds Do to an error, with nothing beside it, and nothing done (P1): the
// worker is as he was.
func doErrs(t *testing.T, k *worker.Worker, at int, in []api.Msg, want api.Errno) {
	t.Helper()
	was := look(k)
	if r := k.Do(at, in); r.Err != want || r.Commit != "" || len(r.Batches) > 0 {
		t.Errorf("step %d, %v: %q, not %d", at, in, r, want)
	}
	if !same(look(k), was) {
		t.Errorf("step %d, %v: %v became %v", at, in, was, look(k))
	}
}

// P13.2, Do: the chapter's example, each step of a job by its only worker, worked
// out beside the program: its vertices, what it sends, and what it answers.
func TestDoAlone(t *testing.T) {
	k := made(t, small(), job("sssp", 0, 7), 1, 0)
	l := [][]api.Vertex{
		{on(0, 0), on(1, -1), on(2, -1), on(3, -1), on(4, -1), on(5, -1), on(6, -1)},
		{off(0, 0), off(1, -1), off(2, -1), off(3, -1), off(4, -1), off(5, -1), off(6, -1)},
		{off(0, 0), off(1, 7), off(2, 1), off(3, -1), off(4, -1), off(5, -1), off(6, -1)},
		{off(0, 0), off(1, 3), off(2, 1), off(3, 11), off(4, -1), off(5, -1), off(6, -1)},
		{off(0, 0), off(1, 3), off(2, 1), off(3, 7), off(4, -1), off(5, -1), off(6, 12)},
		{off(0, 0), off(1, 3), off(2, 1), off(3, 7), off(4, -1), off(5, -1), off(6, 8)},
		{off(0, 0), off(1, 3), off(2, 1), off(3, 7), off(4, -1), off(5, -1), off(6, 8)},
	}
	sent := [][]api.Msg{
		{msg(0, 1, 7), msg(0, 2, 1)},
		{msg(2, 1, 3), msg(1, 3, 11)},
		{msg(3, 0, 21), msg(1, 3, 7), msg(3, 6, 12)},
		{msg(3, 0, 17), msg(6, 3, 15), msg(3, 6, 8)},
		{msg(6, 3, 11)},
		nil,
	}
	bytes := []string{
		"\x02\x03\x00\x01\x0e\x03\x00\x02\x02",
		"\x02\x03\x02\x01\x06\x03\x01\x03\x16",
		"\x03\x03\x03\x00\x2a\x03\x01\x03\x0e\x03\x03\x06\x18",
		"\x03\x03\x03\x00\x22\x03\x06\x03\x1e\x03\x03\x06\x10",
		"\x01\x03\x06\x03\x16",
		"\x00",
	}
	is(t, k, 0, l[0], nil)
	var came []api.Msg
	for at := range sent {
		root, sum := state.Root(l[at+1]), batch.Root(sent[at])
		doIs(t, k, at, came, api.Reply{Commit: "C\x00" + string(rune(at)) + string(root[:]) + "\x01" + string(sum[:]), Batches: bytes[at : at+1]})
		is(t, k, at+1, l[at+1], l[at])
		came = sent[at]
	}
}

// P13.2, Do: both of two workers, of whom each has what it sends to itself and to
// the other one in a batch of its own, be it empty.
func TestDoBoth(t *testing.T) {
	first, second := made(t, small(), job("degree", 0, 2), 2, 0), made(t, small(), job("degree", 0, 2), 2, 1)
	one := []api.Vertex{off(0, 0), off(1, 0), off(2, 0), off(4, 0), off(5, 0)}
	two := []api.Vertex{off(3, 0), off(6, 0)}
	parts := [][]api.Msg{{msg(0, 1, 1), msg(2, 1, 1), msg(0, 2, 1)}, {msg(1, 3, 1), msg(4, 3, 1)}, {msg(3, 0, 1)}, {msg(6, 3, 1), msg(3, 6, 1)}}
	texts := []string{"\x03\x03\x00\x01\x02\x03\x02\x01\x02\x03\x00\x02\x02", "\x02\x03\x01\x03\x02\x03\x04\x03\x02", "\x01\x03\x03\x00\x02", "\x02\x03\x06\x03\x02\x03\x03\x06\x02"}
	c := func(w int, l []api.Vertex) string {
		s, _ := commit.Put(api.Commit{Worker: w, Step: 0, Root: state.Root(l), Batches: []api.Hash{batch.Root(parts[2*w]), batch.Root(parts[2*w+1])}})
		return s
	}
	doIs(t, first, 0, nil, api.Reply{Commit: c(0, one), Batches: texts[:2]})
	doIs(t, second, 0, nil, api.Reply{Commit: c(1, two), Batches: texts[2:]})
	is(t, first, 1, one, []api.Vertex{on(0, 0), on(1, 0), on(2, 0), on(4, 0), on(5, 0)})
	is(t, second, 1, two, []api.Vertex{on(3, 0), on(6, 0)})
	// Each may be told all that was sent: what goes to the other one doesn't matter.
	all := slices.Concat(parts...)
	slices.Reverse(all)
	doIs(t, first, 1, all, answered(t, 2, 0, 1, []api.Vertex{off(0, 1), off(1, 2), off(2, 1), off(4, 0), off(5, 0)}, nil))
	doIs(t, second, 1, slices.Concat(parts[1], parts[3]), answered(t, 2, 1, 1, []api.Vertex{off(3, 3), off(6, 1)}, nil))
	is(t, first, 2, []api.Vertex{off(0, 1), off(1, 2), off(2, 1), off(4, 0), off(5, 0)}, one)
	is(t, second, 2, []api.Vertex{off(3, 3), off(6, 1)}, two)
}

// P13.2, Do: messages may come along edges that there are not, several from one
// vertex to another one, and from vertices that there are not: all are folded.
func TestDoAnyMessages(t *testing.T) {
	in := []api.Msg{msg(5, 4, 3), msg(5, 4, 3), msg(-1, 4, 8), msg(64, 4, 0), msg(math.MaxInt, 4, 1), msg(0, -1, great+1), msg(0, 7, great+1), msg(0, math.MaxInt, 9), msg(3, 3, great+1)}
	for _, x := range []struct {
		tag   string
		value int64
		sent  []api.Msg
	}{
		{"max", 8, []api.Msg{msg(4, 3, 8)}},
		{"label", 0, []api.Msg{msg(4, 3, 0)}},
		{"sssp", 0, []api.Msg{msg(4, 3, 0)}},
		{"bfs", 0, []api.Msg{msg(4, 3, 1)}},
		{"degree", 15, nil},
		{"walks", 17, []api.Msg{msg(4, 3, 15)}},
	} {
		l := []api.Vertex{off(0, 2), off(1, 2), off(2, 2), off(4, 2), off(5, 2)}
		k := loaded(t, small(), job(x.tag, 0, 9), 2, 0, 5, l...)
		next := slices.Clone(l)
		next[3] = off(4, x.value)
		doIs(t, k, 5, in, answered(t, 2, 0, 5, next, x.sent))
		is(t, k, 6, next, l)
	}
}

// P13.2, Do: that nothing came is not that 0 came, and what came in one step
// doesn't come again in the next one.
func TestDoNothingCame(t *testing.T) {
	k := loaded(t, small(), job("sssp", 0, 9), 2, 1, 3, off(3, 5), off(6, 7))
	doIs(t, k, 3, nil, answered(t, 2, 1, 3, []api.Vertex{off(3, 5), off(6, 7)}, nil))
	is(t, k, 4, []api.Vertex{off(3, 5), off(6, 7)}, []api.Vertex{off(3, 5), off(6, 7)})
	doIs(t, k, 4, []api.Msg{msg(0, 3, 0)}, answered(t, 2, 1, 4, []api.Vertex{off(3, 0), off(6, 7)}, []api.Msg{msg(3, 0, 10), msg(3, 6, 1)}))
	is(t, k, 5, []api.Vertex{off(3, 0), off(6, 7)}, []api.Vertex{off(3, 5), off(6, 7)})
	doIs(t, k, 5, []api.Msg{}, answered(t, 2, 1, 5, []api.Vertex{off(3, 0), off(6, 7)}, nil))
	is(t, k, 6, []api.Vertex{off(3, 0), off(6, 7)}, []api.Vertex{off(3, 0), off(6, 7)})
	w := made(t, of(2, edge(0, 1, 1), edge(1, 0, 1)), job("walks", 0, 9), 1, 0)
	w.Do(0, nil)
	w.Do(1, []api.Msg{msg(0, 1, 5)})
	doIs(t, w, 2, nil, answered(t, 1, 0, 2, []api.Vertex{off(0, 1), off(1, 6)}, nil))
}

// P13.2, Do: workers who have no vertices answer too.
func TestDoOfNone(t *testing.T) {
	for workers := 2; workers <= 64; workers++ {
		for _, tag := range tags() {
			k := made(t, of(1, edge(0, 0, 1)), job(tag, 0, 2), workers, workers-1)
			for at := range 2 {
				doIs(t, k, at, []api.Msg{msg(0, 0, great+1)}, answered(t, workers, workers-1, at, nil, nil))
				is(t, k, at+1, nil, nil)
			}
			doErrs(t, k, 2, nil, api.ErrWorkStep)
		}
	}
}

// P13.2, Do: jobs of one step, and of 64; rank sends in each step but the last
// one.
func TestDoEnds(t *testing.T) {
	for _, steps := range []int{1, 2, 64} {
		for _, tag := range tags() {
			g, j := of(1, edge(0, 0, 1)), job(tag, 0, steps)
			k, l := made(t, g, j, 1, 0), firsts(g, j, 1, 0)
			for at := range steps {
				next, want := behind(t, g, j, 1, 0, at, l, []api.Msg{msg(0, 0, 4)})
				if sends := want.Batches[0] != "\x00"; tag == "rank" && sends != (at < steps-1) {
					t.Errorf("step %d of %d: %t", at, steps, sends)
				}
				doIs(t, k, at, []api.Msg{msg(0, 0, 4)}, want)
				is(t, k, at+1, next, l)
				l = next
			}
			doErrs(t, k, steps, nil, api.ErrWorkStep)
		}
	}
}

// P13.2 and P1, Do: ErrWorkStep of a step that isn't the next one, also where the
// messages may not be, ahead of the first step, between, and behind the last one.
func TestDoWrongStep(t *testing.T) {
	for _, tag := range tags() {
		for w := range 2 {
			k := made(t, small(), job(tag, 0, 3), 2, w)
			for step := range 4 {
				for _, at := range []int{-1, 0, 1, 2, 3, 4, 63, 64, 65, step - 1, step + 1, step + 1<<32, -step - 1, math.MinInt, math.MaxInt} {
					if at == step && step < 3 {
						continue
					}
					doErrs(t, k, at, nil, api.ErrWorkStep)
					doErrs(t, k, at, []api.Msg{msg(0, 1, great+1), msg(0, 3, great+1)}, api.ErrWorkStep)
				}
				k.Do(step, nil)
			}
			if k.Step() != 3 {
				t.Errorf("%s: %d steps", tag, k.Step())
			}
		}
	}
}

// P13.2 and P1, Do: the error of Came, at the first vertex, at a later one and at
// the last one; nothing is done.
func TestDoCameErrs(t *testing.T) {
	for _, tag := range tags() {
		for _, v := range []int{0, 1, 2, 4, 5} {
			for _, n := range []int64{great + 1, -great - 1, math.MaxInt64, math.MinInt64} {
				k := loaded(t, small(), job(tag, 0, 4), 2, 0, 1, off(0, 1), off(1, 1), off(2, 1), off(4, 1), off(5, 1))
				in := []api.Msg{msg(3, 0, 1), msg(0, 1, 1), msg(9, v, n)}
				doErrs(t, k, 1, in, api.ErrProgFlow)
				k.Do(1, in[:2])
				doErrs(t, k, 2, in, api.ErrProgFlow)
				doErrs(t, k, 2, append([]api.Msg{msg(8, v, 0)}, in[2]), api.ErrProgFlow)
				in[2].To = 3
				if r := k.Do(2, in); r.Err != api.OK {
					t.Errorf("%s: what came to another worker's vertex: %d", tag, r.Err)
				}
			}
		}
	}
	// Values that may be, but not all together: in which order they come doesn't
	// matter, but in which order they stand does.
	for _, tag := range []string{"degree", "rank", "walks"} {
		k := loaded(t, small(), job(tag, 0, 4), 2, 1, 1, off(3, 0), off(6, 0))
		doErrs(t, k, 1, []api.Msg{msg(1, 6, great), msg(2, 6, 1)}, api.ErrProgFlow)
		doErrs(t, k, 1, []api.Msg{msg(3, 6, -1), msg(2, 6, 1), msg(1, 6, great)}, api.ErrProgFlow)
		doErrs(t, k, 1, []api.Msg{msg(1, 3, -great), msg(2, 3, -great)}, api.ErrProgFlow)
	}
	in := []api.Msg{msg(3, 3, 1), msg(2, 3, -1), msg(1, 3, great)}
	k := loaded(t, small(), job("degree", 0, 4), 2, 1, 1, off(3, 0), off(6, 0))
	doIs(t, k, 1, in, answered(t, 2, 1, 1, []api.Vertex{off(3, great), off(6, 0)}, nil))
}

// P13.2 and P1, Do: the error of Step, of a Value and of what is sent, at the first
// vertex, at a later one and at the last one; nothing is done.
func TestDoStepErrs(t *testing.T) {
	for i, v := range []int{0, 1, 2, 4, 5} {
		l := []api.Vertex{off(0, 1), off(1, 1), off(2, 1), off(4, 1), off(5, 1)}
		l[i].Value = great
		k := loaded(t, small(), job("walks", 0, 4), 2, 0, 1, l...)
		doErrs(t, k, 1, []api.Msg{msg(0, v, 1)}, api.ErrProgFlow)
		for _, other := range []int{0, 1, 2, 4, 5} {
			doErrs(t, k, 1, []api.Msg{msg(0, v, 1), msg(1, other, 0)}, api.ErrProgFlow)
			// Both errors at once, whichever vertex is first.
			doErrs(t, k, 1, []api.Msg{msg(0, v, 1), msg(1, other, great+1)}, api.ErrProgFlow)
		}
		l[i].Active = true
		k = loaded(t, small(), job("max", 0, 4), 2, 0, 1, l...)
		if r := k.Do(1, []api.Msg{msg(0, v, great)}); r.Err != api.OK {
			t.Errorf("%d: %d", v, r.Err)
		}
	}
	// 0 sends along edges of 1 and 7, 2 along one of 2, 4 along one of 0.
	for _, x := range []struct {
		v int
		n int64
	}{{0, 7}, {2, 2}} {
		k := loaded(t, small(), job("sssp", 0, 4), 2, 0, 1, off(0, -1), off(1, -1), off(2, -1), off(4, -1), off(5, -1))
		doErrs(t, k, 1, []api.Msg{msg(5, x.v, great-x.n+1)}, api.ErrProgFlow)
		doErrs(t, k, 1, []api.Msg{msg(5, x.v, great)}, api.ErrProgFlow)
		if r := k.Do(1, []api.Msg{msg(5, x.v, great-x.n)}); r.Err != api.OK || k.Step() != 2 {
			t.Errorf("%v: %d", x, r.Err)
		}
	}
	k := loaded(t, small(), job("bfs", 0, 4), 2, 0, 1, off(0, -1), off(1, -1), off(2, -1), off(4, -1), off(5, -1))
	doErrs(t, k, 1, []api.Msg{msg(5, 4, great)}, api.ErrProgFlow)
	doIs(t, k, 1, []api.Msg{msg(5, 4, great-1)}, answered(t, 2, 0, 1, []api.Vertex{off(0, -1), off(1, -1), off(2, -1), off(4, great-1), off(5, -1)}, []api.Msg{msg(4, 3, great)}))
}

// someMsgs is n messages at random, mostly to vertices of a graph, along its edges
// or not, some several times; now and then one that is too great.
func someMsgs(r *rand.Rand, g api.Graph, n int) []api.Msg {
	var l []api.Msg
	for range n {
		m := msg(r.IntN(g.N+1)-1, r.IntN(g.N+2)-1, r.Int64N(40)-20)
		switch r.IntN(40) {
		case 0:
			m.Val = []int64{great, -great, great - 3}[r.IntN(3)]
		case 1:
			m.Val = []int64{great + 1, -great - 1, math.MaxInt64}[r.IntN(3)]
		case 2:
			l = append(l, m)
		}
		l = append(l, m)
	}
	return l
}

// P13.1 to P13.4: whatever is done to a worker, in whatever order, held against
// the chapter's words.
func TestDoModel(t *testing.T) {
	done, wrong, loads := 0, 0, 0
	for seed := range uint64(1500) {
		r := rand.New(rand.NewPCG(seed, 13))
		g := someGraph(r, 1+r.IntN(9), 1+r.IntN(4))
		j := job(tags()[r.IntN(7)], r.IntN(g.N), 1+r.IntN(5))
		workers := []int{1, 2, 2, 3, 7, 64}[r.IntN(6)]
		w := part.Owner(r.IntN(g.N), workers)
		k, l := made(t, g, j, workers, w), firsts(g, j, workers, w)
		step, ahead := 0, []api.Vertex(nil)
		is(t, k, step, l, ahead)
		for range 8 {
			switch r.IntN(8) {
			case 0:
				doErrs(t, k, step+1-2*r.IntN(2), someMsgs(r, g, 3), api.ErrWorkStep)
			case 1:
				loads++
				step, ahead = r.IntN(j.Steps+1), nil
				l = slices.Clone(l)
				for i := range l {
					l[i].Value, l[i].Active = r.Int64N(40)-20, r.IntN(2) == 0
				}
				if e := k.Load(bytes(step, l)); e != api.OK {
					t.Errorf("%v: %d", l, e)
				}
			default:
				in := someMsgs(r, g, r.IntN(2*g.N+2))
				if step == j.Steps {
					doErrs(t, k, step, in, api.ErrWorkStep)
					continue
				}
				next, want := behind(t, g, j, workers, w, step, l, in)
				if want.Err != api.OK {
					wrong++
					doErrs(t, k, step, in, want.Err)
					continue
				}
				done++
				doIs(t, k, step, in, want)
				step, l, ahead = step+1, next, l
			}
			is(t, k, step, l, ahead)
		}
	}
	if done < 2000 || wrong < 200 || loads < 1000 {
		t.Errorf("%d done, %d wrong, %d loads", done, wrong, loads)
	}
}
