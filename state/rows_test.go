package state_test

import (
	"crypto/sha256"
	"math"
	"math/rand/v2"
	"slices"
	"testing"

	"modillion/api"
	"modillion/part"
	"modillion/state"
	"modillion/tree"
)

// v is a vertex, told shortly.
func v(id int, value int64) api.Vertex {
	return api.Vertex{ID: id, Value: value}
}

// sum is that of bytes, as bytes.
func sum(s string) string {
	h := sha256.Sum256([]byte(s))
	return string(h[:])
}

// ids is those of vertices.
func ids(l []api.Vertex) []int {
	var some []int
	for _, x := range l {
		some = append(some, x.ID)
	}
	return some
}

// P10.2, Rows: worked out beside the program, in the order in which they stand.
func TestRows(t *testing.T) {
	l := []api.Vertex{v(7, 1), {ID: 3, Value: -2, Active: true, Has: true, In: 150}, v(7, 1), v(0, 64)}
	want := []string{"\x07\x02\x00\x00\x00", "\x03\x03\x01\x01\xac\x02", "\x07\x02\x00\x00\x00", "\x00\x80\x01\x00\x00\x00"}
	if rows := state.Rows(l); !slices.Equal(rows, want) {
		t.Errorf("%x, not %x", rows, want)
	}
	for _, l := range [][]api.Vertex{nil, {}, l[:0]} {
		if rows := state.Rows(l); len(rows) > 0 {
			t.Errorf("%x of none", rows)
		}
	}
}

// P10.2, Rows: one that has no bytes stands there with none.
func TestRowsNone(t *testing.T) {
	l := []api.Vertex{v(-1, 0), v(1, 0), v(64, 0), v(2, great+1), {ID: 3, In: 1}, v(4, 0)}
	want := []string{"", "\x01\x00\x00\x00\x00", "", "", "", "\x04\x00\x00\x00\x00"}
	if rows := state.Rows(l); !slices.Equal(rows, want) {
		t.Errorf("%x, not %x", rows, want)
	}
}

// P10.2, Root: of none, of one, of two and of three, by the words of chapter 3.
func TestRoot(t *testing.T) {
	a, b, c := sum("\x00\x01\x01\x01\x00\x00"), sum("\x00\x00\x00\x00\x01\x02"), sum("\x00\x05\x0c\x00\x00\x00")
	l := []api.Vertex{{ID: 1, Value: -1, Active: true}, {Has: true, In: 1}, v(5, 6)}
	for n, want := range []string{
		sum("\x03\x00" + sum("\x02")),
		sum("\x03\x01" + a),
		sum("\x03\x02" + sum("\x01"+a+b)),
		sum("\x03\x03" + sum("\x01"+sum("\x01"+a+b)+c)),
	} {
		if h := state.Root(l[:n]); string(h[:]) != want {
			t.Errorf("%d: %x, not %x", n, h, want)
		}
	}
	if state.Root(nil) != state.Root([]api.Vertex{}) {
		t.Error("nil and empty aren't one")
	}
	none := state.Root([]api.Vertex{v(-1, 0)})
	if want := sum("\x03\x01" + sum("\x00")); string(none[:]) != want {
		t.Errorf("of one that has no bytes: %x, not %x", none, want)
	}
}

// P10.2, Rows and Root: vertices at random, as many as there may be and more.
func TestRowsRoot(t *testing.T) {
	r := rand.New(rand.NewPCG(10, 28))
	for n := range 130 {
		var l []api.Vertex
		var want []string
		for range n {
			x := someVertex(r)
			l, want = append(l, x), append(want, bytes(x))
		}
		if rows := state.Rows(l); !slices.Equal(rows, want) {
			t.Errorf("%v: %x, not %x", l, rows, want)
		}
		if h := state.Root(l); h != tree.Root(want) {
			t.Errorf("%v: %x", l, h)
		}
		if n > 1 && l[0] != l[1] {
			l[0], l[1] = l[1], l[0]
			if state.Root(l) == tree.Root(want) {
				t.Errorf("%v: in another order the same root", l)
			}
		}
	}
}

// P10.2, Own: worked out beside the program, by whose they are.
func TestOwn(t *testing.T) {
	l := []api.Vertex{v(7, 1), v(-1, 2), v(0, 3), v(6, 4), v(5, 5), v(63, 6), v(3, 7), v(4, 8), v(-64, 9), v(2, 10), v(1, 11), v(64, 12), v(math.MinInt, 13), v(1<<32-1, 14)}
	all := ids(l)
	for _, x := range []struct {
		workers, w int
		want       []int
	}{
		{1, 0, []int{7, 0, 6, 5, 63, 3, 4, 2, 1, 64, 1<<32 - 1}},
		{1, -1, []int{-1, -64, math.MinInt}},
		{1, 1, nil},
		{2, 0, []int{0, 5, 63, 4, 2, 1, 64}},
		{2, 1, []int{7, 6, 3, 1<<32 - 1}},
		{2, -1, []int{-1, -64, math.MinInt}},
		{2, 2, nil}, {2, -2, nil},
		{64, 0, []int{0}}, {64, 1, nil}, {64, 20, []int{63}}, {64, 34, []int{1}}, {64, 63, []int{7}}, {64, 64, nil},
		{64, -1, []int{-1, -64, math.MinInt}},
		{0, -1, all}, {65, -1, all}, {-1, -1, all}, {math.MinInt, -1, all}, {math.MaxInt, -1, all},
		{0, 0, nil}, {65, 0, nil}, {65, 64, nil}, {-1, 0, nil}, {0, 1, nil}, {math.MaxInt, math.MaxInt, nil}, {-2, -2, nil},
	} {
		if own := state.Own(l, x.workers, x.w); !slices.Equal(ids(own), x.want) {
			t.Errorf("%d, %d: %v, not %v", x.workers, x.w, own, x.want)
		}
		for _, none := range [][]api.Vertex{nil, {}} {
			if own := state.Own(none, x.workers, x.w); len(own) > 0 {
				t.Errorf("%d, %d: %v of none", x.workers, x.w, own)
			}
		}
	}
}

// P10.2, Own: those of the same ID stay in their order, and each stays as it is,
// whether it has bytes or not.
func TestOwnSame(t *testing.T) {
	l := []api.Vertex{v(3, 5), v(3, 2), {ID: 0, Value: 1, Active: true}, {ID: 3, Value: great + 1, Active: true, Has: true, In: -9}, v(3, 5), {ID: -1, Value: 4, In: 3}, {ID: 3, In: 8}}
	if own, want := state.Own(l, 2, 1), []api.Vertex{l[0], l[1], l[3], l[4], l[6]}; !slices.Equal(own, want) {
		t.Errorf("%v, not %v", own, want)
	}
	if own, want := state.Own(l, 2, -1), l[5:6]; !slices.Equal(own, want) {
		t.Errorf("%v, not %v", own, want)
	}
	if own := state.Own(l, 0, -1); !slices.Equal(own, l) {
		t.Errorf("%v, not %v", own, l)
	}
}

// P10.2, Own: of all numbers of workers each vertex is just one's, and those of
// 0 to 63 are what chapter 6's Of tells.
func TestOwnAll(t *testing.T) {
	var l []api.Vertex
	for id := range 64 {
		l = append(l, api.Vertex{ID: id, Value: int64(id) - 9, Active: id%2 == 0, Has: id%3 == 0, In: int64(id % 5)})
	}
	for workers := 1; workers <= 64; workers++ {
		left := len(l)
		for w := -1; w <= workers; w++ {
			var want []api.Vertex
			his, _ := part.Of(64, workers, w)
			for _, id := range his {
				want = append(want, l[id])
			}
			own := state.Own(l, workers, w)
			if !slices.Equal(own, want) {
				t.Errorf("%d, %d: %v, not %v", workers, w, own, want)
			}
			left -= len(own)
		}
		if left != 0 {
			t.Errorf("%d workers: %d are left", workers, left)
		}
	}
}

// The rules: what is handed in is left as it is, its spare room too, and what is
// handed out is new memory.
func TestMemory(t *testing.T) {
	room := []api.Vertex{v(3, 1), v(0, 2), v(6, 3), v(9, 4), v(9, 5)}
	kept := slices.Clone(room)
	l := room[:3]
	rows, own, all := state.Rows(l), state.Own(l, 2, 1), state.Own(l, 0, -1)
	state.Root(l)
	if !slices.Equal(room, kept) {
		t.Fatalf("%v became %v", kept, room)
	}
	for _, some := range [][]api.Vertex{own, all} {
		for i := range some {
			some[i] = v(1, 77)
		}
		_ = append(some, v(1, 78))
	}
	for i := range rows {
		rows[i] = "gone"
	}
	if !slices.Equal(room, kept) {
		t.Errorf("%v became %v by what was handed out", kept, room)
	}
	if again := state.Own(l, 2, 1); !slices.Equal(again, []api.Vertex{kept[0], kept[2]}) {
		t.Errorf("then %v", again)
	}
	if again := state.Rows(l); !slices.Equal(again, []string{bytes(kept[0]), bytes(kept[1]), bytes(kept[2])}) {
		t.Errorf("then %x", again)
	}
	own = state.Own(l, 2, 1)
	room[0], room[2] = v(3, 88), v(6, 88)
	if !slices.Equal(own, []api.Vertex{kept[0], kept[2]}) {
		t.Errorf("%v by what was handed in", own)
	}
}
