package hash_test

import (
	"bytes"
	"crypto/sha256"
	"strings"
	"testing"

	"modillion/api"
	"modillion/hash"
)

const emptySum = "e3b0c44298fc1c149afbf4c8996fb92427ae41e4649b934ca495991b7852b855"

// edges is the lengths at which the last block, or the one behind it, begins
// to be filled up otherwise.
func edges() []int {
	return []int{0, 1, 54, 55, 56, 57, 62, 63, 64, 65, 118, 119, 120, 121, 127, 128, 129}
}

// row is n bytes, no two neighbours alike.
func row(n int) []byte {
	b := make([]byte, n)
	for i := range b {
		b[i] = byte(i*167 + n)
	}
	return b
}

// P1.1, Of: sums that are known.
func TestOfKnown(t *testing.T) {
	for _, x := range []struct{ text, want string }{
		{"", emptySum},
		{"abc", "ba7816bf8f01cfea414140de5dae2223b00361a396177a9cb410ff61f20015ad"},
		{"abcdbcdecdefdefgefghfghighijhijkijkljklmklmnlmnomnopnopq", "248d6a61d20638b8e5c026930c3e6039a33ce45964ff2167f6ecedd419db06c1"},
		{"abcdefghbcdefghicdefghijdefghijkefghijklfghijklmghijklmnhijklmnoijklmnopjklmnopqklmnopqrlmnopqrsmnopqrstnopqrstu", "cf5b16a778af8380036ce59e7b0492370b249b11e8f07a51afac45037afee9d1"},
		{strings.Repeat("a", 1000000), "cdc76e5c9914fb9281a1c7e284d73e67f1809a48a497200e046d39ccc7112cd0"},
	} {
		if got := hash.Text(hash.Of([]byte(x.text))); got != x.want {
			t.Errorf("Of(%.20q, %d bytes): %s, not %s", x.text, len(x.text), got, x.want)
		}
	}
}

// P1.1, Of: the sum is the known one at each length, those at the edges too.
func TestOfEachLength(t *testing.T) {
	for n := range 300 {
		b := row(n)
		if got := hash.Of(b); got != sha256.Sum256(b) {
			t.Errorf("Of(%d bytes): %x", n, got)
		}
	}
}

// P1.1, Of: no parts, and parts of nothing.
func TestOfNothing(t *testing.T) {
	for i, got := range []api.Hash{
		hash.Of(),
		hash.Of(nil),
		hash.Of([]byte{}),
		hash.Of(nil, []byte{}, nil),
		hash.Of([][]byte(nil)...),
	} {
		if hash.Text(got) != emptySum {
			t.Errorf("%d: %s", i, hash.Text(got))
		}
	}
}

// P1.1, Of: where the parts are cut doesn't matter.
func TestOfCutAnywhere(t *testing.T) {
	for _, n := range edges() {
		b := row(n)
		want := hash.Of(b)
		for i := range n + 1 {
			if hash.Of(b[:i], b[i:]) != want {
				t.Errorf("%d bytes, cut at %d", n, i)
			}
			if hash.Of(nil, b[:i], []byte{}, nil, b[i:i+(n-i)/2], b[i+(n-i)/2:], nil) != want {
				t.Errorf("%d bytes, cut at %d and behind, nothing between", n, i)
			}
		}
		for size := 1; size <= n; size++ {
			if hash.Of(pieces(b, size)...) != want {
				t.Errorf("%d bytes, pieces of %d", n, size)
			}
		}
	}
}

func pieces(b []byte, size int) [][]byte {
	var l [][]byte
	for len(b) > size {
		l = append(l, b[:size])
		b = b[size:]
	}
	return append(l, b)
}

// P1.1, Of: parts stand in their order, and one may be told twice.
func TestOfOrder(t *testing.T) {
	a, b := []byte("ab"), []byte("c")
	if hash.Of(a, b) == hash.Of(b, a) {
		t.Error("ab, c and c, ab have one sum")
	}
	if hash.Of(a, a) != hash.Of([]byte("abab")) {
		t.Error("ab, ab isn't abab")
	}
}

// P1.1, Of: what is handed in stays as it was, its spare room too.
func TestOfLeavesParts(t *testing.T) {
	for _, n := range edges() {
		whole := row(n + 200)
		parts := [][]byte{whole[:n/2], whole[n/2 : n]}
		first := hash.Of(parts...)
		if !bytes.Equal(whole, row(n+200)) {
			t.Errorf("%d bytes were changed", n)
		}
		if len(parts[0]) != n/2 || len(parts[1]) != n-n/2 {
			t.Errorf("%d bytes: the parts were changed", n)
		}
		if hash.Of(parts...) != first {
			t.Errorf("%d bytes: another sum the second time", n)
		}
	}
}

// P1.1, Less: one byte, wherever it is, decides; of several the first one.
func TestLess(t *testing.T) {
	var zero, mid api.Hash
	for i := range mid {
		mid[i] = 0x7f
	}
	for _, h := range []api.Hash{zero, mid, hash.Of()} {
		if hash.Less(h, h) {
			t.Errorf("%x ahead of itself", h)
		}
	}
	for i := range mid {
		for _, more := range []byte{0x80, 0xff} {
			above := mid
			above[i] = more
			if !hash.Less(mid, above) || hash.Less(above, mid) {
				t.Errorf("byte %d alone: 7f and %x", i, more)
			}
			for k := i + 1; k < len(above); k++ {
				above[k] = 0
			}
			if !hash.Less(mid, above) || hash.Less(above, mid) {
				t.Errorf("byte %d first: 7f and %x", i, more)
			}
		}
	}
}

// P1.2, Text: two digits a byte, the high one first, each byte at its place.
func TestText(t *testing.T) {
	for i := range 32 {
		for b := range 256 {
			var h api.Hash
			h[i] = byte(b)
			two := string("0123456789abcdef"[b/16]) + string("0123456789abcdef"[b%16])
			want := strings.Repeat("0", 2*i) + two + strings.Repeat("0", 62-2*i)
			if got := hash.Text(h); got != want {
				t.Fatalf("byte %d is %d: %s", i, b, got)
			}
		}
	}
}

// P1.2: a sum's text is read as that sum.
func TestReadText(t *testing.T) {
	for i := range 32 {
		for b := range 256 {
			h := hash.Of([]byte{byte(i)})
			h[i] = byte(b)
			if got, e := hash.Read(hash.Text(h)); got != h || e != api.OK {
				t.Fatalf("byte %d is %d: %x %d", i, b, got, e)
			}
		}
	}
}

// refuse fails unless s is no sum's text, and nothing else is told (P1.2, P1).
func refuse(t *testing.T, s string) {
	t.Helper()
	h, e := hash.Read(s)
	if e != api.ErrHashText {
		t.Errorf("Read(%q): error %d", s, e)
	}
	if h != (api.Hash{}) {
		t.Errorf("Read(%q): %x beside an error", s, h)
	}
}

// P1.2 and P1, Read: too short, too long.
func TestReadLength(t *testing.T) {
	for n := range 200 {
		s := strings.Repeat("f", n)
		if n != 64 {
			refuse(t, s)
		} else if _, e := hash.Read(s); e != api.OK {
			t.Errorf("64 digits: error %d", e)
		}
	}
	text := hash.Text(hash.Of())
	for _, s := range []string{text + "\n", " " + text, "0x" + text, text + text, text[:63], text[1:], text[:62]} {
		refuse(t, s)
	}
}

// P1.2 and P1, Read: a byte that is no digit, wherever it stands.
func TestReadDigits(t *testing.T) {
	for i := range 64 {
		for c := range 256 {
			b := []byte(strings.Repeat("e", 64))
			b[i] = byte(c)
			if strings.IndexByte("0123456789abcdef", byte(c)) < 0 {
				refuse(t, string(b))
			} else if h, e := hash.Read(string(b)); e != api.OK || hash.Text(h) != string(b) {
				t.Errorf("Read(%q): %x %d", b, h, e)
			}
		}
	}
	refuse(t, strings.Repeat("A", 64))
	refuse(t, strings.ToUpper(hash.Text(hash.Of())))
	refuse(t, strings.Repeat("é", 32)) // 64 bytes, 32 runes
	refuse(t, strings.Repeat("é", 64))
}
