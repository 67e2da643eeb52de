package batch_test

import (
	"crypto/sha256"
	"math"
	"math/rand/v2"
	"slices"
	"strings"
	"testing"

	"modillion/api"
	"modillion/batch"
	"modillion/tree"
)

// sum is that of bytes, as bytes.
func sum(s string) string {
	h := sha256.Sum256([]byte(s))
	return string(h[:])
}

// rowsAre holds Rows and Root to rows.
func rowsAre(t *testing.T, l []api.Msg, want ...string) {
	t.Helper()
	if rows := batch.Rows(l); !slices.Equal(rows, want) {
		t.Errorf("%v: %x, not %x", l, rows, want)
	}
	if h := batch.Root(l); h != tree.Root(want) {
		t.Errorf("%v: %x", l, h)
	}
}

// P11.1, Rows: worked out beside the program, in order.
func TestRows(t *testing.T) {
	rowsAre(t, nil)
	rowsAre(t, []api.Msg{})
	rowsAre(t, list())
	rowsAre(t, list(msg(0, 1, 5)), "\x00\x01\x0a")
	rowsAre(t, list(msg(63, 63, -great)), "\x3f\x3f"+below)
	rowsAre(t, list(msg(3, 1, -1), msg(0, 1, 64), msg(63, 0, 0), msg(0, 10, 1), msg(0, 9, great)),
		"\x3f\x00\x00", "\x00\x01\x80\x01", "\x03\x01\x01", "\x00\x09"+above, "\x00\x0a\x02")
}

// P11.1, Root: of none, of one, of two and of three, by the words of chapter 3.
func TestRoot(t *testing.T) {
	a, b, c := sum("\x00\x09\x00\x01"), sum("\x00\x02\x01\x06"), sum("\x00\x05\x01\x80\x01")
	l := []api.Msg{msg(9, 0, -1), msg(2, 1, 3), msg(5, 1, 64)}
	for n, want := range []string{
		sum("\x03\x00" + sum("\x02")),
		sum("\x03\x01" + a),
		sum("\x03\x02" + sum("\x01"+a+b)),
		sum("\x03\x03" + sum("\x01"+sum("\x01"+a+b)+c)),
	} {
		if h := batch.Root(l[:n]); string(h[:]) != want {
			t.Errorf("%d: %x, not %x", n, h, want)
		}
	}
	want := batch.Root(l)
	if h := batch.Root([]api.Msg{l[2], l[0], l[1]}); h != want {
		t.Errorf("in another order %x, not %x", h, want)
	}
	none := batch.Root([]api.Msg{msg(-1, 0, 0)})
	if want := sum("\x03\x01" + sum("\x00")); string(none[:]) != want {
		t.Errorf("of one that has no row: %x, not %x", none, want)
	}
}

// P11.1, Rows and Root: of messages that are no batch. One whose From or To is
// below 0 stands there, in order, with nothing.
func TestRowsNoBatch(t *testing.T) {
	const least = "\xff\xff\xff\xff\xff\xff\xff\xff\xff\x01" // of -2^63
	for _, v := range []int{-1, -2, -64, -1 << 32, math.MinInt} {
		rowsAre(t, list(msg(v, 1, 5)), "")
		rowsAre(t, list(msg(1, v, 5)), "")
		rowsAre(t, list(msg(v, v, great+1)), "")
		rowsAre(t, list(msg(0, 1, 6), msg(v, 1, 5), msg(2, 0, 4)), "\x02\x00\x08", "", "\x00\x01\x0c")
		rowsAre(t, list(msg(0, 1, 6), msg(1, v, 5), msg(2, 0, 4)), "", "\x02\x00\x08", "\x00\x01\x0c")
		rowsAre(t, list(msg(v, 1, 5), msg(v, 1, 5)), "", "")
		rowsAre(t, list(msg(v, 1, 5), msg(2, 0, 3), msg(v, 1, 5), msg(2, 0, 3)), "\x02\x00\x06", "\x02\x00\x06", "", "")
	}
	rowsAre(t, list(msg(64, 0, 1)), "\x40\x00\x02")
	rowsAre(t, list(msg(0, 64, 1)), "\x00\x40\x02")
	rowsAre(t, list(msg(300, 128, 1), msg(127, 65, 1)), "\x7f\x41\x02", "\xac\x02\x80\x01\x02")
	rowsAre(t, list(msg(math.MaxInt, 1, 0)), strings.Repeat("\xff", 8)+"\x7f\x01\x00")
	rowsAre(t, list(msg(1, math.MaxInt, 0)), "\x01"+strings.Repeat("\xff", 8)+"\x7f\x00")
	rowsAre(t, list(msg(1, 2, great+1)), "\x01\x02\x82\x80\x80\x80\x80\x80\x80\x04")
	rowsAre(t, list(msg(1, 2, math.MinInt64)), "\x01\x02"+least)
	rowsAre(t, list(msg(1, 2, math.MaxInt64), msg(1, 2, math.MinInt64)), "\x01\x02"+least, "\x01\x02\xfe"+least[1:])
	rowsAre(t, list(msg(1, 2, 3), msg(1, 2, 3)), "\x01\x02\x06", "\x01\x02\x06")
	rowsAre(t, list(msg(1, 2, 3), msg(1, 2, -3), msg(1, 2, 0)), "\x01\x02\x05", "\x01\x02\x00", "\x01\x02\x06")
	rowsAre(t, make([]api.Msg, 513), slices.Repeat([]string{"\x00\x00\x00"}, 513)...)
}

// P11.1, Rows and Root: messages at random, those that may be and others.
func TestRowsSome(t *testing.T) {
	r := rand.New(rand.NewPCG(11, 31))
	numbers := []int{0, 1, 1, 2, 63, 64, 65, 128, -1, -2, 1 << 40, math.MaxInt, math.MinInt}
	values := []int64{0, 1, -1, 64, great, -great, great + 1, -great - 1, math.MaxInt64, math.MinInt64}
	for n := range 100 {
		var l []api.Msg
		for range n {
			l = append(l, msg(numbers[r.IntN(len(numbers))], numbers[r.IntN(len(numbers))], values[r.IntN(len(values))]))
		}
		rowsAre(t, l, rowsOf(l)...)
		l = someBatch(r, 100)
		rowsAre(t, l, rowsOf(l)...)
	}
}
