package commit_test

import (
	"math"
	"math/rand/v2"
	"strings"
	"testing"

	"modillion/api"
	"modillion/commit"
	"modillion/wire"
)

// getErrs holds Get to an error, with the zero commitment beside it (P1).
func getErrs(t *testing.T, s string, want api.Errno) {
	t.Helper()
	if c, e := commit.Get(s); !zero(c) || e != want {
		t.Errorf("%x: %v, %d, not %d", s, c, e, want)
	}
}

// getWants is what Get answers by the chapter's words, gone through one behind
// the other.
func getWants(s string) (api.Commit, api.Errno) {
	if !strings.HasPrefix(s, "C") {
		return api.Commit{}, api.ErrCommitForm
	}
	in := wire.NewIn(s[1:])
	worker := in.Num()
	step := in.Num()
	root := in.Hash()
	n := in.Num()
	if e := in.Err(); e != api.OK {
		return api.Commit{}, e
	}
	if worker > 63 || step > 63 || n < 1 || n > 64 {
		return api.Commit{}, api.ErrCommitForm
	}
	c := api.Commit{Worker: int(worker), Step: int(step), Root: root, Batches: make([]api.Hash, n)}
	for i := range c.Batches {
		c.Batches[i] = in.Hash()
	}
	if e := in.End(); e != api.OK {
		return api.Commit{}, e
	}
	return c, api.OK
}

// tryGet holds Get to the chapter's words, and Put to the same bytes again, if
// they are got; whether they are.
func tryGet(t *testing.T, s string) bool {
	t.Helper()
	want, e := getWants(s)
	if e != api.OK {
		getErrs(t, s, e)
		return false
	}
	putIs(t, want, s)
	return true
}

// of is bytes of three numbers, as they stand, a root that differs at each byte,
// and so many bytes of sums.
func of(worker, step, batches string, sums int) string {
	const root = "\x80\x00\x43\x05\xff\x7f\x01ghijklmnopqrstuvwxyzABCDEF"
	return "C" + worker + step + root[:32] + batches + strings.Repeat(root, 100)[:sums]
}

// greats is numbers that may be none of a commitment's.
func greats() []string {
	l := []string{}
	for _, n := range []uint64{65, 66, 127, 128, 129, 255, 256, 1 << 14, 1 << 16, 1 << 31, 1 << 32, 1<<32 + 1, 1<<63 - 1, 1 << 63, 1<<63 + 1, math.MaxUint64 - 63, math.MaxUint64} {
		l = append(l, num(n))
	}
	return l
}

// forms is what is no number: in more bytes than it takes, or above 2^64 - 1.
func forms() []string {
	return []string{
		"\x80\x00", "\x81\x00", "\xbf\x00", "\xc0\x00", "\x81\x80\x00", "\x80\x80\x00", strings.Repeat("\x80", 9) + "\x00",
		strings.Repeat("\x80", 9) + "\x02", strings.Repeat("\xff", 9) + "\x7f", strings.Repeat("\xff", 10), strings.Repeat("\xff", 40),
	}
}

// P12.1, Get: ErrCommitForm of no bytes, and of a first byte that isn't 67,
// whatever comes behind.
func TestGetFirst(t *testing.T) {
	getErrs(t, "", api.ErrCommitForm)
	good := of("\x01", "\x02", "\x02", 64)
	tryGet(t, good)
	for first := range 256 {
		if first == 67 {
			continue
		}
		for _, behind := range []string{"", "\x00", "\x80\x00", strings.Repeat("\xff", 20), good, good[1:], good[1:40], good[1:] + "\x00", "\x40" + good[2:]} {
			getErrs(t, string([]byte{byte(first)})+behind, api.ErrCommitForm)
		}
	}
	getErrs(t, "\xc3\x00"+good[1:], api.ErrCommitForm) // 67 in more bytes than it takes
}

// P12.1, Get: ErrWireShort, wherever the bytes end too early.
func TestGetShort(t *testing.T) {
	for n := 1; n <= 64; n++ {
		s := of("\x3f", "\x01", num(uint64(n)), 32*n)
		if !tryGet(t, s) {
			t.Errorf("%x: not got", s)
		}
		for end := 1; end < len(s); end++ {
			getErrs(t, s[:end], api.ErrWireShort)
		}
	}
	for _, s := range []string{"\x80", "\xff", "\xbf\x80", strings.Repeat("\xff", 9)} {
		getErrs(t, "C"+s, api.ErrWireShort)
		getErrs(t, "C\x01"+s, api.ErrWireShort)
		getErrs(t, of("\x01", "\x02", s, 0), api.ErrWireShort)
	}
}

// P12.1, Get: ErrWireMost, if something is left.
func TestGetMost(t *testing.T) {
	for _, n := range []int{1, 2, 63, 64} {
		s := of("\x00", "\x3f", num(uint64(n)), 32*n)
		for _, more := range []string{"\x00", "\x01", "C", "\x80", "\xff", "a", strings.Repeat("\x00", 32), strings.Repeat("\xff", 33), s} {
			getErrs(t, s+more, api.ErrWireMost)
		}
	}
}

// P12.1, Get: ErrWireForm of what is no number, at each place.
func TestGetForm(t *testing.T) {
	for _, s := range forms() {
		for _, sums := range []int{0, 31, 32, 33, 64, 100 * 32} {
			getErrs(t, of(s, "\x02", "\x01", sums), api.ErrWireForm)
			getErrs(t, of("\x01", s, "\x01", sums), api.ErrWireForm)
			getErrs(t, of("\x01", "\x02", s, sums), api.ErrWireForm)
		}
		getErrs(t, "C"+s, api.ErrWireForm)
		getErrs(t, "C\x01"+s, api.ErrWireForm)
	}
}

// P12.1, Get: ErrCommitForm of a Worker or a Step of 64 and above, and of no
// Batches or more than 64, ahead of whatever is wrong with the sums.
func TestGetNumbers(t *testing.T) {
	for _, sums := range []int{0, 1, 31, 32, 33, 64, 65 * 32, 66 * 32} {
		for _, s := range append(greats(), "\x40") {
			getErrs(t, of(s, "\x02", "\x01", sums), api.ErrCommitForm)
			getErrs(t, of("\x01", s, "\x01", sums), api.ErrCommitForm)
			getErrs(t, of(s, s, "\x01", sums), api.ErrCommitForm)
		}
		for _, s := range append(greats(), "\x00") {
			getErrs(t, of("\x01", "\x02", s, sums), api.ErrCommitForm)
			getErrs(t, of("\x40", "\x02", s, sums), api.ErrCommitForm)
			getErrs(t, of("\x01", "\x40", s, sums), api.ErrCommitForm)
		}
	}
}

// P12.1 and P1, Get: of bytes that are wrong in two ways the error named first
// is told, and of two of reading the one that is met first.
func TestGetTwoWrong(t *testing.T) {
	for _, s := range append(greats(), "\x40") { // may not be, but what is read behind it is told ahead of that
		getErrs(t, "C"+s, api.ErrWireShort)
		getErrs(t, "C\x01"+s, api.ErrWireShort)
		getErrs(t, of(s, "\x02", "", 0), api.ErrWireShort)
		getErrs(t, of("\x01", s, "", 0), api.ErrWireShort)
		getErrs(t, of("\x01", s, "", 0)[:20], api.ErrWireShort)
		getErrs(t, of(s, "\x80\x00", "\x01", 32), api.ErrWireForm)
		getErrs(t, of(s, "\x02", "\x81\x00", 32), api.ErrWireForm)
		getErrs(t, of("\x01", s, "\x81\x00", 32), api.ErrWireForm)
		getErrs(t, of(s, "\x02", "\x80", 0), api.ErrWireShort)
		getErrs(t, of(s, "\x02", "\x01", 31), api.ErrCommitForm) // of the sums it isn't
		getErrs(t, of(s, "\x02", "\x01", 33), api.ErrCommitForm)
		getErrs(t, of("\x01", s, "\x01", 31), api.ErrCommitForm)
		getErrs(t, of("\x01", s, "\x01", 33), api.ErrCommitForm)
	}
	getErrs(t, "D"+strings.Repeat("\xff", 10), api.ErrCommitForm) // and no number
	getErrs(t, "C"+strings.Repeat("\xff", 10), api.ErrWireForm)   // and too short
	getErrs(t, "C\x80\x00\x80", api.ErrWireForm)
	getErrs(t, "C\x01\x80\x00\x00", api.ErrWireForm)
	getErrs(t, of("\x01", "\x80\x00", "\x01", 33), api.ErrWireForm) // and something left
	getErrs(t, of("\x01", "\x02", "\x80\x00", 0), api.ErrWireForm)
	getErrs(t, of("\x01", "\x02", "\x02", 63), api.ErrWireShort)
	getErrs(t, of("\x01", "\x02", "\x02", 65), api.ErrWireMost)
}

// P12.1 and P12.3, Get: all kinds of numbers at each place, with sums that are
// too short, too long or just as they should be. Of any bytes that are got Put
// has just these again.
func TestGetAllKinds(t *testing.T) {
	kinds := append(append(greats(), forms()...), "", "\x00", "\x01", "\x02", "\x3f", "\x40", "\x80", "\xff\x80")
	got := 0
	for _, worker := range kinds {
		for _, step := range kinds {
			for _, batches := range kinds {
				for _, sums := range []int{0, 31, 32, 64, 65, 63 * 32, 64 * 32} {
					if tryGet(t, of(worker, step, batches, sums)) {
						got++
					}
				}
			}
		}
	}
	if got < 64 || got > 200 {
		t.Errorf("%d were got", got)
	}
}

// P12.1 and P12.3, Get: bytes of commitments at random, one or two of them
// changed, left out or written twice.
func TestGetSome(t *testing.T) {
	r := rand.New(rand.NewPCG(12, 6))
	count := [2]int{}
	for range 30000 {
		s := bytes(someCommit(r))
		for range 1 + r.IntN(2) {
			at := r.IntN(len(s))
			if r.IntN(2) == 0 {
				at = []int{0, 1, 2, 35}[r.IntN(4)]
			}
			one := s[at : at+1]
			s = s[:at] + []string{string([]byte{byte(r.IntN(256))}), "", one + one, "\x01", "\x80"}[r.IntN(5)] + s[at+1:]
		}
		if tryGet(t, s) {
			count[0]++
		} else {
			count[1]++
		}
	}
	if count[0] < 1000 || count[1] < 1000 {
		t.Errorf("%v", count)
	}
}
