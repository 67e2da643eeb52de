package wire_test

import (
	"encoding/binary"
	"math"
	"testing"
	"unsafe"

	"modillion/api"
	"modillion/hash"
	"modillion/wire"
)

// standing fails unless that is wrong, and so many bytes are left.
func standing(t *testing.T, i *wire.In, wrong api.Errno, left int) {
	t.Helper()
	end := wrong
	if wrong == api.OK && left > 0 {
		end = api.ErrWireMost
	}
	if i.Err() != wrong || i.End() != end || i.Left() != left {
		t.Errorf("Err %d, End %d, Left %d, not %d, %d, %d", i.Err(), i.End(), i.Left(), wrong, end, left)
	}
}

// refused fails unless a call answers that error, and nothing but it, from
// then on too (P2.2, P1).
func refused(t *testing.T, s string, want api.Errno, read func(i *wire.In)) {
	t.Helper()
	i := wire.NewIn(s)
	read(i)
	standing(t, i, want, len(s))
	for range 2 {
		silent(t, i)
		standing(t, i, want, len(s))
	}
	if t.Failed() {
		t.Fatalf("% x", s)
	}
}

// silent fails unless each call answers its zero value.
func silent(t *testing.T, i *wire.In) {
	t.Helper()
	if n := i.Num(); n != 0 {
		t.Errorf("Num: %d", n)
	}
	if n := i.Int(); n != 0 {
		t.Errorf("Int: %d", n)
	}
	for _, most := range []int{-1, 0, 1, math.MaxInt} {
		if s := i.Text(most); s != "" {
			t.Errorf("Text(%d): %q", most, s)
		}
	}
	if h := i.Hash(); h != (api.Hash{}) {
		t.Errorf("Hash: %x", h)
	}
}

// noNumber fails unless s has that error as a number, as one that may be below
// 0, and as a text's length.
func noNumber(t *testing.T, s string, want api.Errno) {
	t.Helper()
	refused(t, s, want, func(i *wire.In) {
		if n := i.Num(); n != 0 {
			t.Errorf("Num: %d", n)
		}
	})
	refused(t, s, want, func(i *wire.In) {
		if n := i.Int(); n != 0 {
			t.Errorf("Int: %d", n)
		}
	})
	for _, most := range []int{math.MinInt, -1, 0, math.MaxInt} {
		refused(t, s, want, func(i *wire.In) {
			if x := i.Text(most); x != "" {
				t.Errorf("Text: %q", x)
			}
		})
	}
}

// noText fails unless s has that error as a text of at most so many bytes.
func noText(t *testing.T, s string, most int, want api.Errno) {
	t.Helper()
	refused(t, s, want, func(i *wire.In) {
		if x := i.Text(most); x != "" {
			t.Errorf("Text(%d): %q", most, x)
		}
	})
}

// P2.2, Num and Int: numbers, whatever is left behind them.
func TestInNumbers(t *testing.T) {
	for _, behind := range []string{"", "\x00", "z", "\xff\xff"} {
		for want, s := range numbers() {
			i := wire.NewIn(s + behind)
			if n := i.Num(); n != want {
				t.Errorf("% x: %d, not %d", s, n, want)
			}
			standing(t, i, api.OK, len(behind))
		}
		for want, s := range signs() {
			i := wire.NewIn(s + behind)
			if n := i.Int(); n != want {
				t.Errorf("% x: %d, not %d", s, n, want)
			}
			standing(t, i, api.OK, len(behind))
		}
	}
}

// P2.2, Num: a number that ends too early, wherever it does.
func TestInNumShort(t *testing.T) {
	noNumber(t, "", api.ErrWireShort)
	for _, s := range numbers() {
		for n := range len(s) {
			noNumber(t, s[:n], api.ErrWireShort)
		}
	}
}

// P2.2, Num: a last byte that is 0 behind others, whatever comes behind it.
func TestInNumLongerThanNeeded(t *testing.T) {
	for n := 1; n < 12; n++ {
		for _, c := range []string{"\x80", "\x81", "\xff"} {
			for _, behind := range []string{"", "\x00", "\x01", "\x80\x01"} {
				noNumber(t, many(c, n)+"\x00"+behind, api.ErrWireForm)
			}
		}
	}
}

// P2.2, Num: of the tenth byte's 256 values 1 alone may be, and a number is
// told to be too great by it, not by what comes behind.
func TestInNumTooGreat(t *testing.T) {
	for _, ahead := range []string{many("\x80", 9), many("\xff", 9), "\x81" + many("\x80", 8)} {
		for c := range 256 {
			for _, behind := range []string{"", "\x00", "\x01", "\x80", "\xff\x01"} {
				s := ahead + string([]byte{byte(c)}) + behind
				if c != 1 {
					noNumber(t, s, api.ErrWireForm)
				} else if n := wire.NewIn(s).Num(); n < 1<<63 {
					t.Errorf("% x: %d", s, n)
				}
			}
		}
	}
	for n := 10; n < 40; n++ {
		noNumber(t, many("\x80", n), api.ErrWireForm)
		noNumber(t, many("\xff", n), api.ErrWireForm)
		noNumber(t, many("\x80", n)+"\x01", api.ErrWireForm)
	}
}

// P2.2, Num: as another reader of such numbers reads them, but that numbers
// which could be shorter are refused.
func TestInNumEachBeginning(t *testing.T) {
	for a := range 256 {
		for b := range 256 {
			for _, c := range []byte{0, 1, 127, 128, 255} {
				s := string([]byte{byte(a), byte(b), c})
				n, size := binary.Uvarint([]byte(s))
				switch {
				case size > 1 && s[size-1] == 0:
					noNumber(t, s, api.ErrWireForm)
				case size == 0:
					noNumber(t, s, api.ErrWireShort)
				default:
					i := wire.NewIn(s)
					if got := i.Num(); got != n {
						t.Errorf("% x: %d, not %d", s, got, n)
					}
					standing(t, i, api.OK, len(s)-size)
				}
			}
		}
	}
}

// P2.2, Text: texts of at most so many bytes.
func TestInText(t *testing.T) {
	for _, x := range []struct {
		s    string
		most int
		want string
		left int
	}{
		{"\x00", 0, "", 0},
		{"\x00", 5, "", 0},
		{"\x00hi", 0, "", 2},
		{"\x02hi", 2, "hi", 0},
		{"\x02hi", 3, "hi", 0},
		{"\x02hi", math.MaxInt, "hi", 0},
		{"\x02hi!", 2, "hi", 1},
		{"\x02\x00\xff\x00", 2, "\x00\xff", 1},
		{"\x80\x01" + many("a", 128), 128, many("a", 128), 0},
		{"\x80\x80\x01" + many("a", 16385), 16384, many("a", 16384), 1},
	} {
		i := wire.NewIn(x.s)
		if got := i.Text(x.most); got != x.want {
			t.Errorf("%.20q, at most %d: %.20q", x.s, x.most, got)
		}
		standing(t, i, api.OK, x.left)
	}
}

// P2.2, Text: a length above most, whether so many bytes are left or not.
func TestInTextMost(t *testing.T) {
	for n := 1; n < 300; n++ {
		noText(t, text(many("a", n)), n-1, api.ErrWireMost)
	}
	for _, most := range []int{-1, -2, math.MinInt} {
		for _, s := range []string{"\x00", "\x00a", "\x01a", "\x05a", num(math.MaxUint64)} {
			noText(t, s, most, api.ErrWireMost)
		}
	}
	noText(t, "\x01a", 0, api.ErrWireMost)
	noText(t, "\x03hi", 2, api.ErrWireMost) // too short as well
	for _, n := range []uint64{1 << 32, 1 << 63, 1<<63 + 1, math.MaxUint64} {
		noText(t, num(n), 9, api.ErrWireMost)
	}
	noText(t, num(1<<63), math.MaxInt, api.ErrWireMost)
	noText(t, num(math.MaxUint64), math.MaxInt, api.ErrWireMost)
	noText(t, num(math.MaxInt64), math.MaxInt64-1, api.ErrWireMost)
}

// P2.2, Text: a length above what is left.
func TestInTextShort(t *testing.T) {
	s := text(many("a", 300))
	for n := 2; n < len(s); n++ {
		noText(t, s[:n], 300, api.ErrWireShort)
	}
	noText(t, "\x01", 1, api.ErrWireShort)
	noText(t, "\x03hi", 3, api.ErrWireShort)
	for _, n := range []uint64{math.MaxInt64, math.MaxInt64 - 1, 1 << 40} {
		noText(t, num(n)+"hi", math.MaxInt, api.ErrWireShort)
	}
}

// P2.2, Hash: 32 bytes, or none.
func TestInHash(t *testing.T) {
	h := hash.Of()
	for n := range 32 {
		refused(t, string(h[:n]), api.ErrWireShort, func(i *wire.In) {
			if got := i.Hash(); got != (api.Hash{}) {
				t.Errorf("of %d bytes: %x", n, got)
			}
		})
	}
	for left := range 34 {
		i := wire.NewIn(string(h[:]) + many("z", left))
		if got := i.Hash(); got != h {
			t.Errorf("%x", got)
		}
		standing(t, i, api.OK, left)
	}
}

// P2.2: what is read is taken from what is left, field by field, up to the end.
func TestInOrder(t *testing.T) {
	h := hash.Of([]byte("abc"))
	i := wire.NewIn("\xac\x02" + "\x01" + "\x02hi" + string(h[:]) + "\x00" + "\x7f" + "\x80\x01")
	standing(t, i, api.OK, 42)
	if n := i.Num(); n != 300 {
		t.Errorf("%d", n)
	}
	standing(t, i, api.OK, 40)
	if n := i.Int(); n != -1 {
		t.Errorf("%d", n)
	}
	standing(t, i, api.OK, 39)
	if s := i.Text(2); s != "hi" {
		t.Errorf("%q", s)
	}
	standing(t, i, api.OK, 36)
	if got := i.Hash(); got != h {
		t.Errorf("%x", got)
	}
	standing(t, i, api.OK, 4)
	if s := i.Text(0); s != "" {
		t.Errorf("%q", s)
	}
	if n := i.Num(); n != 127 {
		t.Errorf("%d", n)
	}
	standing(t, i, api.OK, 2)
	if n := i.Int(); n != 64 {
		t.Errorf("%d", n)
	}
	standing(t, i, api.OK, 0)
}

// P2.2: what was read ahead of an error stays read, and the first error is
// kept though another one would be told of what is left.
func TestInErrorKept(t *testing.T) {
	reads := map[api.Errno][]func(i *wire.In){
		api.ErrWireShort: {func(i *wire.In) { i.Hash() }, func(i *wire.In) { i.Text(3) }},
		api.ErrWireMost:  {func(i *wire.In) { i.Text(2) }, func(i *wire.In) { i.Text(-1) }},
	}
	for want, l := range reads {
		for _, read := range l {
			i := wire.NewIn("\x07\x03hi") // as a number it could be read
			if n := i.Num(); n != 7 {
				t.Errorf("%d", n)
			}
			read(i)
			standing(t, i, want, 3)
			silent(t, i)
			standing(t, i, want, 3)
		}
	}
	i := wire.NewIn("\x07\x80\x00" + many("a", 40)) // as a sum it could be read
	i.Num()
	i.Num()
	standing(t, i, api.ErrWireForm, 42)
	silent(t, i)
	standing(t, i, api.ErrWireForm, 42)
}

// P2.2, End: something left is told, but isn't kept.
func TestInEnd(t *testing.T) {
	i := wire.NewIn("\x01\x02")
	if i.End() != api.ErrWireMost || i.Err() != api.OK || i.Num() != 1 {
		t.Error("two left")
	}
	if i.End() != api.ErrWireMost || i.Err() != api.OK || i.Num() != 2 {
		t.Error("one left")
	}
	if i.End() != api.OK || i.Err() != api.OK {
		t.Error("none left")
	}
	if i.Num() != 0 || i.End() != api.ErrWireShort || i.Err() != api.ErrWireShort {
		t.Error("beyond the end")
	}
	standing(t, wire.NewIn(""), api.OK, 0)
}

// What is handed out is new memory.
func TestInTextNew(t *testing.T) {
	for _, n := range []int{1, 40, 1000} {
		s := text(many("a", n))
		got := wire.NewIn(s).Text(n)
		from, at := uintptr(unsafe.Pointer(unsafe.StringData(s))), uintptr(unsafe.Pointer(unsafe.StringData(got)))
		if at >= from && at < from+uintptr(len(s)) {
			t.Errorf("%d bytes: a piece of what was handed in", n)
		}
	}
}
