package hash

import (
	"bytes"
	"testing"
)

// P1.1: how many bits there are is told whole, above 32 bits too; so many
// bytes are too many to be summed up in a test.
func TestEndingCount(t *testing.T) {
	for _, x := range []struct {
		n    uint64
		want []byte
	}{
		{0, []byte{0, 0, 0, 0, 0, 0, 0, 0}},
		{1, []byte{0, 0, 0, 0, 0, 0, 0, 8}},
		{1<<29 - 1, []byte{0, 0, 0, 0, 255, 255, 255, 248}},
		{1 << 29, []byte{0, 0, 0, 1, 0, 0, 0, 0}},
		{1<<31 - 1, []byte{0, 0, 0, 3, 255, 255, 255, 248}},
	} {
		if e := ending(x.n); !bytes.HasSuffix(e, x.want) {
			t.Errorf("behind %d bytes: % x", x.n, e)
		}
	}
}

// P1.1: as few noughts as there can be fill up the last block.
func TestEndingLength(t *testing.T) {
	for n := range uint64(200) {
		e := ending(n)
		if (n+uint64(len(e)))%64 != 0 || len(e) < 9 || len(e) >= 9+64 || e[0] != 128 {
			t.Errorf("behind %d bytes: % x", n, e)
		}
		if bytes.Count(e[1:len(e)-8], []byte{0}) != len(e)-9 {
			t.Errorf("behind %d bytes: % x", n, e)
		}
	}
}
