package wire_test

import (
	"encoding/binary"
	"math"
	"strings"
	"testing"

	"modillion/api"
	"modillion/hash"
	"modillion/wire"
)

// written is what is written by write.
func written(write func(o *wire.Out)) string {
	o := wire.NewOut()
	write(o)
	return o.Done()
}

func num(n uint64) string         { return written(func(o *wire.Out) { o.Num(n) }) }
func signed(n int64) string       { return written(func(o *wire.Out) { o.Int(n) }) }
func text(s string) string        { return written(func(o *wire.Out) { o.Text(s) }) }
func sum(h api.Hash) string       { return written(func(o *wire.Out) { o.Hash(h) }) }
func many(s string, n int) string { return strings.Repeat(s, n) }

// numbers is numbers, and their bytes.
func numbers() map[uint64]string {
	return map[uint64]string{
		0:              "\x00",
		1:              "\x01",
		127:            "\x7f",
		128:            "\x80\x01",
		255:            "\xff\x01",
		300:            "\xac\x02",
		16383:          "\xff\x7f",
		16384:          "\x80\x80\x01",
		1<<32 - 1:      "\xff\xff\xff\xff\x0f",
		1<<56 - 1:      many("\xff", 7) + "\x7f",
		1 << 56:        many("\x80", 8) + "\x01",
		math.MaxInt64:  many("\xff", 8) + "\x7f",
		1 << 63:        many("\x80", 9) + "\x01",
		math.MaxUint64: many("\xff", 9) + "\x01",
	}
}

// signs is numbers that may be below 0, and their bytes.
func signs() map[int64]string {
	return map[int64]string{
		0:                 "\x00",
		-1:                "\x01",
		1:                 "\x02",
		-2:                "\x03",
		63:                "\x7e",
		-64:               "\x7f",
		64:                "\x80\x01",
		-65:               "\x81\x01",
		api.MaxValue:      many("\x80", 7) + "\x04",
		-api.MaxValue:     many("\xff", 7) + "\x03",
		math.MaxInt64:     "\xfe" + many("\xff", 8) + "\x01",
		math.MinInt64 + 1: "\xfd" + many("\xff", 8) + "\x01",
		math.MinInt64:     many("\xff", 9) + "\x01",
	}
}

// P2.1, Num: the lowest seven bits first, as few bytes as there can be.
func TestOutNum(t *testing.T) {
	for n, want := range numbers() {
		if got := num(n); got != want {
			t.Errorf("%d: % x, not % x", n, got, want)
		}
	}
	for at := range 64 {
		for _, n := range []uint64{1<<at - 1, 1 << at, 1<<at + 1, math.MaxUint64 << at} {
			if got, want := num(n), string(binary.AppendUvarint(nil, n)); got != want {
				t.Errorf("%d: % x, not % x", n, got, want)
			}
		}
	}
}

// P2.1, Int: 2n, or -2n - 1 below 0.
func TestOutInt(t *testing.T) {
	for n, want := range signs() {
		if got := signed(n); got != want {
			t.Errorf("%d: % x, not % x", n, got, want)
		}
	}
	for n := range int64(1000) {
		if signed(n) != num(uint64(2*n)) || signed(-n-1) != num(uint64(2*n+1)) {
			t.Errorf("%d: % x, %d: % x", n, signed(n), -n-1, signed(-n-1))
		}
	}
}

// P2.1, Text: its length, and its bytes, whatever they are.
func TestOutText(t *testing.T) {
	for s, want := range map[string]string{
		"":               "\x00",
		"hi":             "\x02hi",
		"\x00":           "\x01\x00",
		"é":              "\x02\xc3\xa9", // counted by bytes, not by runes
		"\xff\x80":       "\x02\xff\x80",
		many("a", 127):   "\x7f" + many("a", 127),
		many("a", 128):   "\x80\x01" + many("a", 128),
		many("a", 16384): "\x80\x80\x01" + many("a", 16384),
	} {
		if got := text(s); got != want {
			t.Errorf("%.20q: %.20q", s, got)
		}
	}
}

// P2.1, Hash: its 32 bytes, and nothing else.
func TestOutHash(t *testing.T) {
	for _, h := range []api.Hash{{}, {1, 2}, {31: 255}, hash.Of()} {
		if got := sum(h); got != string(h[:]) {
			t.Errorf("%x: %x", h, got)
		}
	}
}

// P2.1: what is written stands behind what was written ahead.
func TestOutOrder(t *testing.T) {
	h := hash.Of([]byte("abc"))
	got := written(func(o *wire.Out) {
		o.Num(300)
		o.Int(-1)
		o.Text("hi")
		o.Hash(h)
		o.Text("")
		o.Num(0)
		o.Int(64)
	})
	if want := "\xac\x02" + "\x01" + "\x02hi" + string(h[:]) + "\x00" + "\x00" + "\x80\x01"; got != want {
		t.Errorf("%q, not %q", got, want)
	}
}

// P2.1, Done: all of it, each time; it may be gone on, and what was told
// before stays as it was.
func TestOutDone(t *testing.T) {
	o := wire.NewOut()
	if s := o.Done(); s != "" {
		t.Errorf("nothing written: %q", s)
	}
	want := ""
	var told, wanted []string
	for n := range 200 {
		switch n % 4 {
		case 0:
			o.Num(uint64(n))
			want += num(uint64(n))
		case 1:
			o.Int(int64(-n))
			want += signed(int64(-n))
		case 2:
			o.Text(many("x", n))
			want += text(many("x", n))
		case 3:
			o.Hash(api.Hash{byte(n)})
			want += sum(api.Hash{byte(n)})
		}
		told, wanted = append(told, o.Done()), append(wanted, want)
		if again := o.Done(); again != want {
			t.Errorf("%d: another one the second time", n)
		}
	}
	for n := range told {
		if told[n] != wanted[n] {
			t.Errorf("%d: %q, not %q", n, told[n], wanted[n])
		}
	}
}

// P2.1: what is written here isn't seen there.
func TestOutApart(t *testing.T) {
	a, b := wire.NewOut(), wire.NewOut()
	a.Num(1)
	b.Num(2)
	a.Text("a")
	b.Text("b")
	if a.Done() != "\x01\x01a" || b.Done() != "\x02\x01b" {
		t.Errorf("%q %q", a.Done(), b.Done())
	}
}
