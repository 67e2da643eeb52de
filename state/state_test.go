package state_test

import (
	"math"
	"math/rand/v2"
	"testing"

	"modillion/api"
	"modillion/state"
)

// great is the greatest value that may be.
const great = 1 << 50

// num is a number as bytes, by chapter 2's words.
func num(n uint64) string {
	if n < 128 {
		return string([]byte{byte(n)})
	}
	return string([]byte{byte(n%128) + 128}) + num(n/128)
}

// signed is one that may be below 0 as bytes, by chapter 2's words.
func signed(n int64) string {
	if n < 0 {
		return num(2*uint64(-(n+1)) + 1) // -2n - 1, that of the least one too
	}
	return num(2 * uint64(n))
}

// bit is a yes or a no as bytes.
func bit(yes bool) string {
	if yes {
		return "\x01"
	}
	return "\x00"
}

// bytes is those that a vertex would have, whether it has any or not.
func bytes(x api.Vertex) string {
	return num(uint64(x.ID)) + signed(x.Value) + bit(x.Active) + bit(x.Has) + signed(x.In)
}

// has is whether a vertex has bytes, by the chapter's words.
func has(x api.Vertex) bool {
	value := func(n int64) bool { return -great <= n && n <= great }
	return 0 <= x.ID && x.ID < 64 && value(x.Value) && value(x.In) && (x.Has || x.In == 0)
}

// example is a vertex, and its bytes worked out beside the program.
type example struct {
	x api.Vertex
	s string
}

// examples is those of the chapter, and of each thing that may be.
func examples() []example {
	const above, below = "\x80\x80\x80\x80\x80\x80\x80\x04", "\xff\xff\xff\xff\xff\xff\xff\x03" // of 2^50, and of -2^50
	return []example{
		{api.Vertex{ID: 1, Value: -1, Active: true}, "\x01\x01\x01\x00\x00"},
		{api.Vertex{}, "\x00\x00\x00\x00\x00"},
		{api.Vertex{ID: 63}, "\x3f\x00\x00\x00\x00"},
		{api.Vertex{Value: 1}, "\x00\x02\x00\x00\x00"},
		{api.Vertex{Active: true}, "\x00\x00\x01\x00\x00"},
		{api.Vertex{Has: true}, "\x00\x00\x00\x01\x00"},
		{api.Vertex{Has: true, In: 1}, "\x00\x00\x00\x01\x02"},
		{api.Vertex{Has: true, In: -1}, "\x00\x00\x00\x01\x01"},
		{api.Vertex{ID: 2, Value: 3, Active: true, Has: true, In: 4}, "\x02\x06\x01\x01\x08"},
		{api.Vertex{ID: 5, Value: 150, Has: true, In: -300}, "\x05\xac\x02\x00\x01\xd7\x04"},
		{api.Vertex{ID: 9, Value: -64, Active: true}, "\x09\x7f\x01\x00\x00"},
		{api.Vertex{ID: 9, Value: 63, Active: true, Has: true, In: 64}, "\x09\x7e\x01\x01\x80\x01"},
		{api.Vertex{ID: 62, Value: 65536, Active: true, Has: true, In: -65536}, "\x3e\x80\x80\x08\x01\x01\xff\xff\x07"},
		{api.Vertex{Value: great}, "\x00" + above + "\x00\x00\x00"},
		{api.Vertex{Value: -great}, "\x00" + below + "\x00\x00\x00"},
		{api.Vertex{Has: true, In: great}, "\x00\x00\x00\x01" + above},
		{api.Vertex{Has: true, In: -great}, "\x00\x00\x00\x01" + below},
		{api.Vertex{ID: 63, Value: great, Active: true, Has: true, In: -great}, "\x3f" + above + "\x01\x01" + below},
	}
}

// each tells vertices of all kinds, those that have bytes and those that haven't.
func each(tell func(api.Vertex)) {
	values := []int64{0, 1, -1, 63, 64, -65, great - 1, great, great + 1, -great + 1, -great, -great - 1, 2 * great, 1<<62 + 5, math.MaxInt64, math.MinInt64 + 1, math.MinInt64}
	for _, id := range []int{0, 1, 2, 32, 62, 63, 64, 65, 127, 128, 256, 1 << 32, 1<<32 + 1, math.MaxInt, -1, -2, -63, -64, -256, -1<<32 + 1, math.MinInt} {
		for _, value := range values {
			for _, in := range values {
				for i := range 4 {
					tell(api.Vertex{ID: id, Value: value, Active: i%2 == 1, Has: i/2 == 1, In: in})
				}
			}
		}
	}
}

// someVertex is one at random that has bytes.
func someVertex(r *rand.Rand) api.Vertex {
	value := func() int64 {
		most := int64(1) << r.IntN(51)
		return r.Int64N(2*most+1) - most
	}
	x := api.Vertex{ID: r.IntN(64), Value: value(), Active: r.IntN(2) == 0, Has: r.IntN(2) == 0}
	if x.Has {
		x.In = value()
	}
	return x
}

// getIs holds Get to a vertex.
func getIs(t *testing.T, s string, want api.Vertex) {
	t.Helper()
	if x, e := state.Get(s); x != want || e != api.OK {
		t.Errorf("%x: %v, %d, not %v", s, x, e, want)
	}
}

// getErrs holds Get to an error, with the zero vertex beside it (P1).
func getErrs(t *testing.T, s string, want api.Errno) {
	t.Helper()
	if x, e := state.Get(s); x != (api.Vertex{}) || e != want {
		t.Errorf("%x: %v, %d, not %d", s, x, e, want)
	}
}

// P10.1, Put, Get and Check: the chapter's example, and others worked out beside
// the program, the least and the greatest of each thing among them.
func TestExamples(t *testing.T) {
	for _, x := range examples() {
		if e := state.Check(x.x); e != api.OK {
			t.Errorf("%v: %d", x.x, e)
		}
		if s := state.Put(x.x); s != x.s {
			t.Errorf("%v: %x, not %x", x.x, s, x.s)
		}
		getIs(t, x.s, x.x)
	}
}

// P10.1, Check: each thing that may be wrong, alone.
func TestCheckWrong(t *testing.T) {
	for _, x := range []api.Vertex{
		{ID: -1}, {ID: 64}, {ID: math.MinInt}, {ID: math.MaxInt}, {ID: 1 << 32}, {ID: -1 << 32},
		{Value: great + 1}, {Value: -great - 1}, {Value: math.MaxInt64}, {Value: math.MinInt64},
		{Has: true, In: great + 1}, {Has: true, In: -great - 1}, {Has: true, In: math.MaxInt64}, {Has: true, In: math.MinInt64},
		{In: 1}, {In: -1}, {In: great}, {In: -great}, {Active: true, In: 1},
	} {
		if e := state.Check(x); e != api.ErrStateForm {
			t.Errorf("%v: %d", x, e)
		}
		if s := state.Put(x); s != "" {
			t.Errorf("%v: %x", x, s)
		}
		getErrs(t, bytes(x), api.ErrStateForm)
	}
}

// P10.1 and P10.3, all kinds of vertices, by the chapter's words: the bytes that
// one would have that has none are no vertex's.
func TestAllKinds(t *testing.T) {
	each(func(x api.Vertex) {
		e, s := state.Check(x), state.Put(x)
		if !has(x) {
			if e != api.ErrStateForm || s != "" {
				t.Errorf("%v: %d, %x", x, e, s)
			}
			getErrs(t, bytes(x), api.ErrStateForm)
			return
		}
		if e != api.OK || s != bytes(x) {
			t.Errorf("%v: %d, %x, not %x", x, e, s, bytes(x))
		}
		getIs(t, s, x)
	})
}

// P10.1 and P10.3: vertices at random.
func TestSomeVertices(t *testing.T) {
	r := rand.New(rand.NewPCG(10, 25))
	for range 20000 {
		x := someVertex(r)
		s := state.Put(x)
		if e := state.Check(x); e != api.OK || s != bytes(x) {
			t.Errorf("%v: %d, %x, not %x", x, e, s, bytes(x))
		}
		getIs(t, s, x)
	}
}
