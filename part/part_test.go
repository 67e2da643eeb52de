package part_test

import (
	"math"
	"math/rand/v2"
	"slices"
	"testing"

	"modillion/api"
	"modillion/part"
)

// mixed is Mix by division and without a bit lost on the way: what is cut is
// cut at the end of each step alone.
func mixed(v uint64) uint64 {
	const room = 1 << 32
	v = v * 2654435761 % room
	v ^= v / (1 << 15)
	v = v * 2246822519 % room
	return v ^ v/(1<<13)
}

// owners is whose each of the first n vertices is, of so many workers.
func owners(n, workers int) []int {
	var l []int
	for v := range n {
		l = append(l, int(mixed(uint64(v))%uint64(workers)))
	}
	return l
}

// counts is numbers of vertices or of workers that may not be.
func counts() []int {
	return []int{0, 65, 66, 128, 1 << 32, 1<<32 + 1, math.MaxInt, -1, -2, -64, -1<<32 + 5, math.MinInt}
}

// P6.1, Mix: worked out beside the program, the edges among them.
func TestMixExamples(t *testing.T) {
	for _, x := range [][2]uint32{
		{0, 0},
		{1, 1561565218},
		{2, 3573156908},
		{3, 251002245},
		{63, 468157972},
		{64, 1474502952},
		{1 << 16, 1354494789},
		{1<<31 - 1, 1048270311},
		{1 << 31, 1249203128},
		{1<<31 + 1, 2811055338},
		{1<<32 - 2, 3892317278},
		{1<<32 - 1, 4093904431},
	} {
		if got := part.Mix(x[0]); got != x[1] {
			t.Errorf("%d: %d, not %d", x[0], got, x[1])
		}
	}
}

// P6.1, Mix: small numbers, each bit, and some of all kinds.
func TestMix(t *testing.T) {
	l := []uint32{}
	for v := range uint32(5000) {
		l = append(l, v, math.MaxUint32-v)
	}
	for bit := range 32 {
		l = append(l, 1<<bit, 1<<bit-1, math.MaxUint32^1<<bit)
	}
	r := rand.New(rand.NewPCG(6, 1))
	for range 5000 {
		l = append(l, r.Uint32())
	}
	for _, v := range l {
		if got, want := part.Mix(v), mixed(uint64(v)); uint64(got) != want {
			t.Errorf("%d: %d, not %d", v, got, want)
		}
	}
}

// P6.1, Owner: worked out beside the program.
func TestOwnerExamples(t *testing.T) {
	for _, x := range []struct{ v, workers, w int }{
		{0, 1, 0}, {63, 1, 0}, {1<<32 - 1, 1, 0}, {math.MaxInt, 1, 0},
		{0, 2, 0}, {1, 2, 0}, {3, 2, 1}, {63, 2, 0}, {64, 2, 0}, {1<<32 - 1, 2, 1},
		{0, 7, 0}, {1, 7, 3}, {2, 7, 6}, {63, 7, 2}, {1<<32 - 1, 7, 1},
		{0, 64, 0}, {1, 64, 34}, {7, 64, 63}, {63, 64, 20}, {1<<32 - 1, 64, 47},
	} {
		if w := part.Owner(x.v, x.workers); w != x.w {
			t.Errorf("%d of %d: %d, not %d", x.v, x.workers, w, x.w)
		}
	}
}

// P6.1, Owner: a vertex goes by its lowest 32 bits, and may be above 2^32.
func TestOwner(t *testing.T) {
	l := []int{0, 1, 62, 63, 64, 65, 1<<31 - 1, 1 << 31, 1<<32 - 1, 1 << 32, 1<<32 + 1, 5<<32 + 63, 1 << 62, math.MaxInt}
	r := rand.New(rand.NewPCG(6, 2))
	for range 200 {
		l = append(l, r.IntN(200), r.Int())
	}
	for _, v := range l {
		for workers := 1; workers <= api.MaxWorkers; workers++ {
			want := int(mixed(uint64(v)%(1<<32)) % uint64(workers))
			if w := part.Owner(v, workers); w != want {
				t.Errorf("%d of %d: %d, not %d", v, workers, w, want)
			}
		}
	}
}

// P6.1, Owner: nobody's is a vertex below 0, or of workers that may not be.
func TestOwnerWrong(t *testing.T) {
	for _, v := range []int{-1, -2, -63, -64, -1 << 31, -1<<32 + 1, -1 << 32, math.MinInt + 1, math.MinInt} {
		for workers := 1; workers <= api.MaxWorkers; workers++ {
			if w := part.Owner(v, workers); w != -1 {
				t.Errorf("%d of %d: %d", v, workers, w)
			}
		}
	}
	for _, workers := range counts() {
		for _, v := range []int{-1, 0, 1, 63, 64, 1<<32 - 1, 1 << 32, math.MinInt, math.MaxInt} {
			if w := part.Owner(v, workers); w != -1 {
				t.Errorf("%d of %d: %d", v, workers, w)
			}
		}
	}
}

// P6.2, Of: worked out beside the program; worker 1 of 64 has no vertex at all.
func TestOfExamples(t *testing.T) {
	for _, x := range []struct {
		n, workers, w int
		l             []int
	}{
		{1, 1, 0, []int{0}},
		{4, 1, 0, []int{0, 1, 2, 3}},
		{8, 2, 0, []int{0, 1, 2, 4, 5}},
		{8, 2, 1, []int{3, 6, 7}},
		{3, 2, 1, nil},
		{4, 2, 1, []int{3}},
		{6, 3, 2, []int{2, 5}},
		{64, 3, 0, []int{0, 3, 6, 8, 9, 15, 16, 22, 27, 29, 31, 37, 49, 50, 51, 52, 55, 62}},
		{1, 64, 0, []int{0}},
		{1, 64, 63, nil},
		{64, 64, 0, []int{0}},
		{64, 64, 1, nil},
		{64, 64, 20, []int{23, 57, 63}},
		{63, 64, 20, []int{23, 57}},
		{64, 64, 63, []int{7, 15, 30}},
	} {
		if l, e := part.Of(x.n, x.workers, x.w); e != api.OK || !slices.Equal(l, x.l) {
			t.Errorf("%d, %d, %d: %v, %d, not %v", x.n, x.workers, x.w, l, e, x.l)
		}
	}
}

// P6.2, Of and Place: all that may be asked for.
func TestOfPlace(t *testing.T) {
	for n := 1; n <= api.MaxVertices; n++ {
		for workers := 1; workers <= api.MaxWorkers; workers++ {
			have := make([][]int, workers)
			for v, w := range owners(n, workers) {
				if got, at, e := part.Place(n, workers, v); got != w || at != len(have[w]) || e != api.OK {
					t.Errorf("place %d, %d, %d: %d, %d, %d, not %d, %d", n, workers, v, got, at, e, w, len(have[w]))
				}
				have[w] = append(have[w], v)
			}
			for w, want := range have {
				if l, e := part.Of(n, workers, w); e != api.OK || !slices.Equal(l, want) {
					t.Errorf("of %d, %d, %d: %v, %d, not %v", n, workers, w, l, e, want)
				}
			}
		}
	}
}

// P6.2, Place: worked out beside the program.
func TestPlaceExamples(t *testing.T) {
	for _, x := range []struct{ n, workers, v, w, at int }{
		{1, 1, 0, 0, 0}, {64, 1, 0, 0, 0}, {64, 1, 63, 0, 63},
		{8, 2, 0, 0, 0}, {8, 2, 3, 1, 0}, {8, 2, 5, 0, 4}, {8, 2, 7, 1, 2},
		{1, 64, 0, 0, 0}, {64, 64, 7, 63, 0}, {64, 64, 30, 63, 2}, {64, 64, 63, 20, 2},
	} {
		if w, at, e := part.Place(x.n, x.workers, x.v); w != x.w || at != x.at || e != api.OK {
			t.Errorf("%v: %d, %d, %d", x, w, at, e)
		}
	}
}

// wrong is a number of vertices, one of workers, and a worker (for Of) or a
// vertex (for Place): of these three at least one may not be.
func wrong(last func(n, workers int) int) [][3]int {
	var l [][3]int
	may := [][2]int{{1, 1}, {1, 64}, {64, 1}, {64, 64}, {5, 3}, {3, 5}}
	for _, x := range may {
		end := last(x[0], x[1])
		for _, third := range []int{-1, -2, math.MinInt, end, end + 1, 64, 65, 1 << 32, math.MaxInt} {
			l = append(l, [3]int{x[0], x[1], third})
		}
		for _, count := range counts() {
			for _, third := range []int{0, -1, 1, 63, 64, math.MinInt, math.MaxInt} {
				l = append(l, [3]int{count, x[1], third}, [3]int{x[0], count, third}, [3]int{count, count, third})
			}
		}
	}
	return l
}

// P6.2 and P1, Of: ErrPartForm, and no vertices beside it.
func TestOfWrong(t *testing.T) {
	for _, x := range wrong(func(n, workers int) int { return workers }) {
		if l, e := part.Of(x[0], x[1], x[2]); e != api.ErrPartForm || len(l) > 0 {
			t.Errorf("%v: %v, %d", x, l, e)
		}
	}
}

// P6.2 and P1, Place: ErrPartForm, and noughts beside it.
func TestPlaceWrong(t *testing.T) {
	for _, x := range wrong(func(n, workers int) int { return n }) {
		if w, at, e := part.Place(x[0], x[1], x[2]); e != api.ErrPartForm || w != 0 || at != 0 {
			t.Errorf("%v: %d, %d, %d", x, w, at, e)
		}
	}
}

// P6.3: each vertex is just one worker's, and stands where Place says.
func TestJustOne(t *testing.T) {
	for n := 1; n <= api.MaxVertices; n++ {
		for workers := 1; workers <= api.MaxWorkers; workers++ {
			owned := make([]int, n)
			for w := range workers {
				l, _ := part.Of(n, workers, w)
				for i, v := range l {
					if v < 0 || v >= n {
						t.Fatalf("%d vertices, %d workers: %d", n, workers, v)
					}
					owned[v]++
					if x, at, e := part.Place(n, workers, v); x != w || at != i || e != api.OK || part.Owner(v, workers) != w {
						t.Errorf("%d vertices, %d workers: %d is %d's, not %d's, at %d, not %d, %d", n, workers, v, x, w, at, i, e)
					}
				}
			}
			for v, times := range owned {
				if times != 1 {
					t.Errorf("%d vertices, %d workers: %d is %d workers'", n, workers, v, times)
				}
			}
		}
	}
}

// The rules: what is handed out is new memory, whatever becomes of it.
func TestOwnMemory(t *testing.T) {
	l, _ := part.Of(8, 2, 0)
	kept := slices.Clone(l)
	other, _ := part.Of(8, 2, 0)
	for i := range l {
		l[i] = -7
	}
	_ = append(l, -7)
	again, _ := part.Of(8, 2, 0)
	if !slices.Equal(other, kept) || !slices.Equal(again, kept) {
		t.Errorf("%v became %v, %v", kept, other, again)
	}
}
