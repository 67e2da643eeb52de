package wire_test

import (
	"math"
	"math/rand/v2"
	"testing"

	"modillion/api"
	"modillion/hash"
	"modillion/wire"
)

// field is one that is written, and read again.
type field struct {
	write func(o *wire.Out)
	read  func(i *wire.In) bool // whether it is the one that was written
}

func fieldOf(r *rand.Rand) field {
	switch r.IntN(4) {
	case 0:
		n := r.Uint64() >> r.IntN(64)
		return field{func(o *wire.Out) { o.Num(n) }, func(i *wire.In) bool { return i.Num() == n }}
	case 1:
		n := int64(r.Uint64()) >> r.IntN(64)
		return field{func(o *wire.Out) { o.Int(n) }, func(i *wire.In) bool { return i.Int() == n }}
	case 2:
		b := make([]byte, r.IntN(300))
		for i := range b {
			b[i] = byte(r.Uint32())
		}
		s, more := string(b), r.IntN(2)
		return field{func(o *wire.Out) { o.Text(s) }, func(i *wire.In) bool { return i.Text(len(s)+more) == s }}
	}
	h := hash.Of([]byte{byte(r.Uint32())})
	return field{func(o *wire.Out) { o.Hash(h) }, func(i *wire.In) bool { return i.Hash() == h }}
}

// P2.3: what was written is read again, whatever stands behind one another;
// cut anywhere it isn't read whole.
func TestAgain(t *testing.T) {
	for seed := range uint64(200) {
		r := rand.New(rand.NewPCG(seed, 2))
		var l []field
		o := wire.NewOut()
		for range r.IntN(12) {
			f := fieldOf(r)
			f.write(o)
			l = append(l, f)
		}
		s := o.Done()
		i := wire.NewIn(s)
		for n, f := range l {
			if !f.read(i) {
				t.Errorf("seed %d: field %d isn't read again", seed, n)
			}
		}
		standing(t, i, api.OK, 0)
		for cut := range len(s) {
			i := wire.NewIn(s[:cut])
			for _, f := range l {
				f.read(i)
			}
			if i.Err() != api.ErrWireShort || i.End() != api.ErrWireShort {
				t.Errorf("seed %d, cut at %d: %d", seed, cut, i.Err())
			}
		}
	}
}

// copied reads and writes a field of that kind.
func copied(i *wire.In, o *wire.Out, kind int) {
	switch kind {
	case 0:
		o.Num(i.Num())
	case 1:
		o.Int(i.Int())
	case 2:
		o.Text(i.Text(math.MaxInt))
	default:
		o.Hash(i.Hash())
	}
}

// rows is all rows of up to so many of some bytes.
func rows(most int) []string {
	all, last := []string{""}, []string{""}
	for range most {
		var next []string
		for _, s := range last {
			for _, b := range []string{"\x00", "\x01", "\x02", "\x7f", "\x80", "\xff"} {
				next = append(next, s+b)
			}
		}
		all, last = append(all, next...), next
	}
	return all
}

// P2.3: what is read to its end was written so: written again it is the same
// bytes, by whatever three fields it is read.
func TestReadToItsEnd(t *testing.T) {
	whole := 0
	for _, s := range rows(5) {
		for kinds := range 4 * 4 * 4 {
			i, o := wire.NewIn(s), wire.NewOut()
			for _, kind := range []int{kinds / 16, kinds / 4 % 4, kinds % 4} {
				if i.End() == api.ErrWireMost && i.Err() == api.OK {
					copied(i, o, kind)
				}
			}
			if i.End() != api.OK {
				continue
			}
			whole++
			if o.Done() != s {
				t.Fatalf("% x: % x", s, o.Done())
			}
		}
	}
	if whole < 1000 {
		t.Errorf("only %d rows were read to their end", whole)
	}
}

// P2.3: two rows of bytes are two rows of fields: each number has one alone.
func TestOneWay(t *testing.T) {
	seen := map[string]uint64{}
	for n := range uint64(40000) {
		s := num(n)
		if was, twice := seen[s]; twice {
			t.Fatalf("%d and %d: % x", was, n, s)
		}
		seen[s] = n
	}
}
