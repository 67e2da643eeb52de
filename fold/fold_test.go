package fold_test

import (
	"math"
	"math/rand/v2"
	"slices"
	"testing"

	"modillion/api"
	"modillion/fold"
)

// great is the greatest value that may be.
const great = 1 << 50

// msg is one, told shortly.
func msg(from, to int, val int64) api.Msg {
	return api.Msg{From: from, To: to, Val: val}
}

// list is messages, told shortly.
func list(l ...api.Msg) []api.Msg {
	return l
}

// mixed is the messages in some other order.
func mixed(seed uint64, l []api.Msg) []api.Msg {
	l = slices.Clone(l)
	r := rand.New(rand.NewPCG(seed, 10))
	r.Shuffle(len(l), func(i, j int) { l[i], l[j] = l[j], l[i] })
	return l
}

// wide is numbers of all kinds, rising: the least and the greatest that there
// are among them, whose difference is no number.
func wide() []int {
	return []int{math.MinInt, math.MinInt + 1, -great - 1, -1 << 32, -64, -2, -1, 0, 1, 2, 63, 64, 1<<32 + 1, great, math.MaxInt - 1, math.MaxInt}
}

// grid is messages of all of these numbers, in order, those that are wanted.
func grid(numbers []int, wanted func(from, to int) bool) []api.Msg {
	var l []api.Msg
	for _, to := range numbers {
		for _, from := range numbers {
			for _, val := range numbers {
				if wanted(from, to) {
					l = append(l, msg(from, to, int64(val)))
				}
			}
		}
	}
	return l
}

func all(from, to int) bool { return true }

// P8.1, Sort: what messages differ in alone, and the same one twice.
func TestSortExamples(t *testing.T) {
	for _, x := range []struct {
		why     string
		l, want []api.Msg
	}{
		{"none, nil", nil, nil},
		{"none, empty", list(), nil},
		{"one", list(msg(3, 2, 1)), list(msg(3, 2, 1))},
		{"To alone", list(msg(1, 5, 7), msg(1, 2, 7), msg(1, 3, 7)), list(msg(1, 2, 7), msg(1, 3, 7), msg(1, 5, 7))},
		{"From alone", list(msg(5, 1, 7), msg(2, 1, 7), msg(3, 1, 7)), list(msg(2, 1, 7), msg(3, 1, 7), msg(5, 1, 7))},
		{"Val alone", list(msg(1, 1, 7), msg(1, 1, -7), msg(1, 1, 0)), list(msg(1, 1, -7), msg(1, 1, 0), msg(1, 1, 7))},
		{"the same twice", list(msg(1, 2, 3), msg(1, 1, 3), msg(1, 2, 3)), list(msg(1, 1, 3), msg(1, 2, 3), msg(1, 2, 3))},
		{"the same three times", list(msg(1, 2, 3), msg(1, 2, 3), msg(1, 2, 3)), list(msg(1, 2, 3), msg(1, 2, 3), msg(1, 2, 3))},
		{"To ahead of From", list(msg(0, 2, 5), msg(9, 1, 5)), list(msg(9, 1, 5), msg(0, 2, 5))},
		{"To ahead of Val", list(msg(4, 2, 0), msg(4, 1, 9)), list(msg(4, 1, 9), msg(4, 2, 0))},
		{"From ahead of Val", list(msg(2, 4, 0), msg(1, 4, 9)), list(msg(1, 4, 9), msg(2, 4, 0))},
		{"To ahead of both", list(msg(0, 1, 0), msg(9, 0, 9), msg(8, 0, 8)), list(msg(8, 0, 8), msg(9, 0, 9), msg(0, 1, 0))},
		{"below 0", list(msg(0, 0, 0), msg(0, -1, 0), msg(-1, 0, 0), msg(0, 0, -1), msg(0, -2, 0)),
			list(msg(0, -2, 0), msg(0, -1, 0), msg(-1, 0, 0), msg(0, 0, -1), msg(0, 0, 0))},
		{"Vals far apart", list(msg(0, 0, math.MaxInt64), msg(0, 0, math.MinInt64), msg(0, 0, 0)),
			list(msg(0, 0, math.MinInt64), msg(0, 0, 0), msg(0, 0, math.MaxInt64))},
		{"Froms far apart", list(msg(math.MaxInt, 0, 0), msg(math.MinInt, 0, 0), msg(0, 0, 0)),
			list(msg(math.MinInt, 0, 0), msg(0, 0, 0), msg(math.MaxInt, 0, 0))},
		{"Tos far apart", list(msg(0, math.MaxInt, 0), msg(0, math.MinInt, 0), msg(0, 0, 0)),
			list(msg(0, math.MinInt, 0), msg(0, 0, 0), msg(0, math.MaxInt, 0))},
	} {
		if got := fold.Sort(x.l); !slices.Equal(got, x.want) {
			t.Errorf("%s: %v, not %v", x.why, got, x.want)
		}
	}
}

// P8.1, Sort, and P8.3: all of them, each as often as it is there, in whatever
// order they come.
func TestSort(t *testing.T) {
	for seed := range uint64(30) {
		var want []api.Msg
		for i, m := range grid(wide(), all) {
			for range 1 + i%int(seed+1)%3 {
				want = append(want, m)
			}
		}
		turned := slices.Clone(want)
		slices.Reverse(turned)
		for _, l := range [][]api.Msg{want, turned, mixed(seed, want)} {
			if got := fold.Sort(l); !slices.Equal(got, want) {
				t.Errorf("seed %d: %d messages aren't in order", seed, len(got))
			}
		}
	}
}

// P8.1, To and From: those to a vertex, or from it, with others between, worked
// out beside the program.
func TestPickExamples(t *testing.T) {
	l := list(msg(2, 1, 5), msg(1, 0, 8), msg(0, 1, 9), msg(1, 2, 4), msg(0, 1, 3), msg(1, 1, 6), msg(1, 0, 2), msg(0, 1, 9), msg(-1, 3, 1), msg(3, -1, 1))
	for _, x := range []struct {
		v        int
		to, from []api.Msg
	}{
		{0, list(msg(1, 0, 2), msg(1, 0, 8)), list(msg(0, 1, 3), msg(0, 1, 9), msg(0, 1, 9))},
		{1, list(msg(0, 1, 3), msg(0, 1, 9), msg(0, 1, 9), msg(1, 1, 6), msg(2, 1, 5)), list(msg(1, 0, 2), msg(1, 0, 8), msg(1, 1, 6), msg(1, 2, 4))},
		{2, list(msg(1, 2, 4)), list(msg(2, 1, 5))},
		{3, list(msg(-1, 3, 1)), list(msg(3, -1, 1))},
		{-1, list(msg(3, -1, 1)), list(msg(-1, 3, 1))},
		{4, nil, nil},
		{-2, nil, nil},
		{math.MinInt, nil, nil},
		{math.MaxInt, nil, nil},
	} {
		if got := fold.To(l, x.v); !slices.Equal(got, x.to) {
			t.Errorf("to %d: %v, not %v", x.v, got, x.to)
		}
		if got := fold.From(l, x.v); !slices.Equal(got, x.from) {
			t.Errorf("from %d: %v, not %v", x.v, got, x.from)
		}
		for _, none := range [][]api.Msg{nil, list()} {
			if to, from := fold.To(none, x.v), fold.From(none, x.v); len(to) > 0 || len(from) > 0 {
				t.Errorf("%d of none: %v, %v", x.v, to, from)
			}
		}
	}
}

// P8.1, To and From, and P8.3: of numbers of all kinds, in whatever order they
// come.
func TestPick(t *testing.T) {
	for seed := range uint64(5) {
		l := mixed(seed, grid(wide(), all))
		for _, v := range wide() {
			if got, want := fold.To(l, v), grid(wide(), func(_, to int) bool { return to == v }); !slices.Equal(got, want) {
				t.Errorf("seed %d, to %d: %v, not %v", seed, v, got, want)
			}
			if got, want := fold.From(l, v), grid(wide(), func(from, _ int) bool { return from == v }); !slices.Equal(got, want) {
				t.Errorf("seed %d, from %d: %v, not %v", seed, v, got, want)
			}
		}
	}
}

// The rules: what is handed in stays as it is, its spare room too, and what is
// handed out is new memory.
func TestOwnMemory(t *testing.T) {
	room := list(msg(1, 3, 5), msg(0, 1, 4), msg(0, 0, 3), msg(0, 3, 2), msg(9, 9, 9), msg(8, 8, 8))
	kept := slices.Clone(room)
	l := room[:4]
	for name, call := range map[string]func() []api.Msg{
		"Sort": func() []api.Msg { return fold.Sort(l) },
		"To":   func() []api.Msg { return fold.To(l, 3) },
		"From": func() []api.Msg { return fold.From(l, 0) },
		"Split": func() []api.Msg {
			parts, _ := fold.Split(1, l)
			return parts[0]
		},
		"of one": func() []api.Msg { return fold.Sort(l[:1]) },
		"in order already": func() []api.Msg {
			return fold.Sort(l[2:4])
		},
	} {
		got, other := call(), call()
		was := slices.Clone(other)
		for i := range got {
			got[i] = msg(-7, -7, -7)
		}
		_ = append(got, msg(-7, -7, -7))
		if again := call(); len(was) == 0 || !slices.Equal(other, was) || !slices.Equal(again, was) {
			t.Errorf("%s: %v became %v, %v", name, was, other, again)
		}
	}
	fold.Came("walks", l, 3)
	fold.Check(api.Graph{N: 4, Edges: []api.Edge{{From: 1, To: 3}, {From: 0, To: 1}, {From: 0}, {From: 0, To: 3}}}, l)
	if !slices.Equal(room, kept) {
		t.Errorf("%v became %v", kept, room)
	}
}
