package state_test

import (
	"math"
	"math/rand/v2"
	"strings"
	"testing"

	"modillion/api"
	"modillion/state"
	"modillion/wire"
)

// row is five numbers of a vertex as bytes, of which those told of stand for
// another one's.
func row(at int, s string) string {
	l := []string{"\x05", "\x06", "\x01", "\x01", "\x08"}
	l[at] = s
	return strings.Join(l, "")
}

// getWants is what Get answers by the chapter's words, beside the vertex.
func getWants(s string) (api.Vertex, api.Errno) {
	in := wire.NewIn(s)
	id := in.Num()
	value := in.Int()
	active, came := in.Num(), in.Num()
	x := api.Vertex{ID: int(id % 64), Value: value, Active: active == 1, Has: came == 1, In: in.Int()}
	if e := in.End(); e != api.OK {
		return api.Vertex{}, e
	}
	if id > 63 || active > 1 || came > 1 || !has(x) {
		return api.Vertex{}, api.ErrStateForm
	}
	return x, api.OK
}

// P10.1, Get: ErrWireShort, wherever the bytes end too early.
func TestGetShort(t *testing.T) {
	getErrs(t, "", api.ErrWireShort)
	for _, x := range examples() {
		for end := range x.s {
			getErrs(t, x.s[:end], api.ErrWireShort)
		}
	}
	for at := range 5 {
		for _, s := range []string{"\x80", "\xff\x80", strings.Repeat("\xff", 9)} {
			getErrs(t, row(at, s)[:at+len(s)], api.ErrWireShort)
		}
	}
}

// P10.1, Get: ErrWireMost, if something is left.
func TestGetMost(t *testing.T) {
	for _, x := range examples() {
		for _, more := range []string{"\x00", "\x01", "\x80", "\xff", x.s, strings.Repeat("\x00", 99)} {
			getErrs(t, x.s+more, api.ErrWireMost)
		}
	}
}

// P10.1, Get: ErrWireForm, where a number has more bytes than it takes, or is
// above 2^64 - 1, at each place.
func TestGetForm(t *testing.T) {
	for at := range 5 {
		for _, s := range []string{
			"\x80\x00", "\x81\x00", "\x81\x80\x00", "\x80\x80\x00",
			strings.Repeat("\x80", 9) + "\x02", strings.Repeat("\xff", 9) + "\x7f", strings.Repeat("\xff", 10), strings.Repeat("\xff", 20),
		} {
			getErrs(t, row(at, s), api.ErrWireForm)
			getErrs(t, row(at, s)[:at+len(s)], api.ErrWireForm)
		}
	}
}

// P10.1, Get: ErrStateForm, if an Active or a Has is neither 1 nor 0, those too
// whose lowest bits are 1 or 0 alone.
func TestGetNeither(t *testing.T) {
	for _, at := range []int{2, 3} {
		for _, n := range []uint64{2, 3, 127, 128, 129, 255, 256, 257, 1 << 31, 1 << 32, 1<<32 + 1, 1<<63 - 1, 1 << 63, 1<<63 + 1, math.MaxUint64} {
			getErrs(t, row(at, num(n)), api.ErrStateForm)
		}
	}
	getIs(t, row(2, "\x00"), api.Vertex{ID: 5, Value: 3, Has: true, In: 4})
	getIs(t, row(2, "\x01"), api.Vertex{ID: 5, Value: 3, Active: true, Has: true, In: 4})
}

// P10.1, Get: ErrStateForm of an ID of 64 and above, however great.
func TestGetID(t *testing.T) {
	for _, n := range []uint64{64, 65, 127, 128, 255, 256, 1 << 16, 1 << 32, 1<<32 + 5, 1<<63 - 1, 1 << 63, 1<<63 + 5, math.MaxUint64 - 63, math.MaxUint64} {
		getErrs(t, row(0, num(n)), api.ErrStateForm)
	}
	getIs(t, row(0, "\x3f"), api.Vertex{ID: 63, Value: 3, Active: true, Has: true, In: 4})
}

// P10.1, Get: ErrStateForm of a Value and an In that are too great or too small.
func TestGetValue(t *testing.T) {
	for _, at := range []int{1, 4} {
		for _, n := range []int64{great + 1, great + 2, 2 * great, 1 << 62, math.MaxInt64, -great - 1, -great - 2, -2 * great, -1 << 62, math.MinInt64 + 1, math.MinInt64} {
			getErrs(t, row(at, signed(n)), api.ErrStateForm)
		}
	}
	getIs(t, row(1, signed(great)), api.Vertex{ID: 5, Value: great, Active: true, Has: true, In: 4})
	getIs(t, row(4, signed(-great)), api.Vertex{ID: 5, Value: 3, Active: true, Has: true, In: -great})
}

// P10.1, Get: ErrStateForm of an In that isn't 0 where nothing came.
func TestGetNothingCame(t *testing.T) {
	for _, n := range []int64{1, -1, 64, great, -great, great + 1} {
		getErrs(t, "\x05\x06\x01\x00"+signed(n), api.ErrStateForm)
		getErrs(t, "\x00\x00\x00\x00"+signed(n), api.ErrStateForm)
	}
	getIs(t, "\x05\x06\x01\x00\x00", api.Vertex{ID: 5, Value: 3, Active: true})
}

// P10.1 and P1, Get: of bytes that are wrong in two ways the error of reading is
// told, and of two of these the one that is met first.
func TestGetTwoWrong(t *testing.T) {
	for _, s := range []string{row(0, "\x40"), row(1, signed(great+1)), row(2, "\x02"), row(3, "\x02"), row(3, "\x00"), row(4, signed(-great-1))} {
		getErrs(t, s, api.ErrStateForm)
		getErrs(t, s+"\x00", api.ErrWireMost)
		getErrs(t, s[:len(s)-1], api.ErrWireShort)
		getErrs(t, s[:len(s)-1]+"\x80\x00", api.ErrWireForm)
	}
	getErrs(t, "\x80\x00", api.ErrWireForm)                     // and too short
	getErrs(t, "\x80\x00\x00\x00\x00\x00\x00", api.ErrWireForm) // and something left
	getErrs(t, "\x00\x00\x00\x00\x80\x00\x00", api.ErrWireForm)
	getErrs(t, "\x40\x00\x02\x00", api.ErrWireShort)
	getErrs(t, "\x40\x00\x02\x02\x02\x02", api.ErrWireMost)
}

// P10.1 and P10.3: all rows of up to six of some bytes. Of any that are got Put
// has just these again.
func TestGetAllShort(t *testing.T) {
	some := []byte{0, 1, 2, 63, 64, 127, 128, 129}
	var try func(s string, more int)
	try = func(s string, more int) {
		want, e := getWants(s)
		if e != api.OK {
			getErrs(t, s, e)
		} else {
			getIs(t, s, want)
			if again := state.Put(want); again != s {
				t.Errorf("%x became %x", s, again)
			}
		}
		if more > 0 {
			for _, c := range some {
				try(s+string([]byte{c}), more-1)
			}
		}
	}
	try("", 6)
}

// P10.1 and P10.3: bytes of vertices at random, one or two of them changed, left
// out or written twice.
func TestGetSome(t *testing.T) {
	r := rand.New(rand.NewPCG(10, 26))
	got := 0
	for range 50000 {
		s := bytes(someVertex(r))
		for range 1 + r.IntN(2) {
			at := r.IntN(len(s))
			s = s[:at] + []string{string([]byte{byte(r.IntN(256))}), "", s[at:at+1] + s[at:at+1], "\x00"}[r.IntN(4)] + s[min(at+1, len(s)):]
		}
		want, e := getWants(s)
		if e != api.OK {
			getErrs(t, s, e)
			continue
		}
		got++
		getIs(t, s, want)
		if again := state.Put(want); again != s {
			t.Errorf("%x became %x", s, again)
		}
	}
	if got < 1000 || got > 49000 {
		t.Errorf("%d were got", got)
	}
}

// P10.3: no two vertices have the same bytes.
func TestNoOther(t *testing.T) {
	whose := map[string]api.Vertex{}
	met := func(x api.Vertex) {
		s := state.Put(x)
		if s == "" {
			return
		}
		if other, ok := whose[s]; ok && other != x {
			t.Errorf("%x: of %v, and of %v", s, other, x)
		}
		whose[s] = x
	}
	each(met)
	r := rand.New(rand.NewPCG(10, 27))
	for range 20000 {
		met(someVertex(r))
	}
	if len(whose) < 10000 {
		t.Errorf("%d alone", len(whose))
	}
}
