package commit_test

import (
	"crypto/sha256"
	"math"
	"math/rand/v2"
	"slices"
	"strings"
	"testing"

	"modillion/api"
	"modillion/commit"
)

// num is a number as bytes, by chapter 2's words.
func num(n uint64) string {
	if n < 128 {
		return string([]byte{byte(n)})
	}
	return string([]byte{byte(n%128) + 128}) + num(n/128)
}

// nothing is the root of no leaves, by the words of chapter 3, as bytes.
func nothing() string {
	top := sha256.Sum256([]byte("\x02"))
	root := sha256.Sum256([]byte("\x03\x00" + string(top[:])))
	return string(root[:])
}

// hash is the sum of 32 bytes.
func hash(s string) api.Hash {
	return api.Hash([]byte(s))
}

// bytes is those that a commitment would have, whether it may be or not.
func bytes(c api.Commit) string {
	s := "C" + num(uint64(c.Worker)) + num(uint64(c.Step)) + string(c.Root[:]) + num(uint64(len(c.Batches)))
	for _, h := range c.Batches {
		s += string(h[:])
	}
	return s
}

// may is whether a commitment may be, by the chapter's words.
func may(c api.Commit) bool {
	return 0 <= c.Worker && c.Worker < 64 && 0 <= c.Step && c.Step < 64 && 1 <= len(c.Batches) && len(c.Batches) <= 64
}

// someHash is a sum at random, or one of bytes that are also numbers, or told
// apart from others by one bit.
func someHash(r *rand.Rand) api.Hash {
	var h api.Hash
	switch r.IntN(4) {
	case 0:
		h[r.IntN(32)] = 1 << r.IntN(8)
	case 1:
		for i := range h {
			h[i] = []byte{0, 1, 63, 64, 67, 127, 128, 255}[r.IntN(8)]
		}
	default:
		for i := range h {
			h[i] = byte(r.IntN(256))
		}
	}
	return h
}

// someHashes is n sums at random, with some room behind them.
func someHashes(r *rand.Rand, n int) []api.Hash {
	var l []api.Hash
	for range n + 2 {
		l = append(l, someHash(r))
	}
	return l[:n]
}

// someCommit is one at random that may be.
func someCommit(r *rand.Rand) api.Commit {
	n := 1 + r.IntN(3)
	if r.IntN(10) == 0 {
		n = 1 + r.IntN(64)
	}
	return api.Commit{Worker: r.IntN(64), Step: r.IntN(64), Root: someHash(r), Batches: someHashes(r, n)}
}

// alike is whether two commitments are the same one.
func alike(a, b api.Commit) bool {
	return a.Worker == b.Worker && a.Step == b.Step && a.Root == b.Root && slices.Equal(a.Batches, b.Batches)
}

// zero is whether a commitment is the zero one.
func zero(c api.Commit) bool {
	return alike(c, api.Commit{})
}

// putIs holds Put to the bytes of a commitment, and Get to it again.
func putIs(t *testing.T, c api.Commit, want string) {
	t.Helper()
	if s, e := commit.Put(c); s != want || e != api.OK {
		t.Errorf("%v: %x, %d, not %x", c, s, e, want)
	}
	getIs(t, want, c)
}

// getIs holds Get to a commitment.
func getIs(t *testing.T, s string, want api.Commit) {
	t.Helper()
	if c, e := commit.Get(s); !alike(c, want) || e != api.OK {
		t.Errorf("%x: %v, %d, not %v", s, c, e, want)
	}
}

// putErrs holds Put to ErrCommitForm, with no bytes beside it (P1), and Get to
// the same, of the bytes that it would have.
func putErrs(t *testing.T, c api.Commit) {
	t.Helper()
	if s, e := commit.Put(c); s != "" || e != api.ErrCommitForm {
		t.Errorf("%v: %x, %d", c, s, e)
	}
	getErrs(t, bytes(c), api.ErrCommitForm)
}

// P12.1: the chapter's example, and others written out, the least and the
// greatest of each number among them.
func TestExamples(t *testing.T) {
	a, b := strings.Repeat("\x00", 32), strings.Repeat("\xff", 32)
	c := "0123456789abcdefghijklmnopqrstuv"
	for _, x := range []struct {
		c api.Commit
		s string
	}{
		{api.Commit{Worker: 1, Step: 2, Root: hash(nothing()), Batches: []api.Hash{hash(nothing())}}, "\x43\x01\x02" + nothing() + "\x01" + nothing()},
		{api.Commit{Batches: make([]api.Hash, 1)}, "\x43\x00\x00" + a + "\x01" + a},
		{api.Commit{Worker: 63, Root: hash(c), Batches: []api.Hash{hash(b)}}, "\x43\x3f\x00" + c + "\x01" + b},
		{api.Commit{Step: 63, Root: hash(b), Batches: []api.Hash{hash(c)}}, "\x43\x00\x3f" + b + "\x01" + c},
		{api.Commit{Worker: 63, Step: 63, Root: hash(a), Batches: []api.Hash{hash(b), hash(c)}}, "\x43\x3f\x3f" + a + "\x02" + b + c},
		{api.Commit{Worker: 62, Step: 5, Root: hash(c), Batches: []api.Hash{hash(c), hash(c)}}, "\x43\x3e\x05" + c + "\x02" + c + c},
		{api.Commit{Worker: 5, Step: 62, Root: hash(c), Batches: []api.Hash{hash(b), hash(a), hash(c), hash(a)}}, "\x43\x05\x3e" + c + "\x04" + b + a + c + a},
		{api.Commit{Worker: 7, Step: 9, Root: hash(c), Batches: slices.Repeat([]api.Hash{hash(b)}, 63)}, "\x43\x07\x09" + c + "\x3f" + strings.Repeat(b, 63)},
		{api.Commit{Worker: 9, Step: 7, Root: hash(b), Batches: slices.Repeat([]api.Hash{hash(c), hash(a)}, 32)}, "\x43\x09\x07" + b + "\x40" + strings.Repeat(c+a, 32)},
	} {
		putIs(t, x.c, x.s)
	}
}

// P12.1: each Worker, each Step and each number of Batches that may be, and
// those beside them.
func TestAllNumbers(t *testing.T) {
	r := rand.New(rand.NewPCG(12, 1))
	try := func(worker, step, batches int) {
		c := api.Commit{Worker: worker, Step: step, Root: someHash(r), Batches: someHashes(r, batches)}
		if may(c) {
			putIs(t, c, bytes(c))
		} else {
			putErrs(t, c)
		}
	}
	for n := -2; n < 70; n++ {
		for _, other := range []int{0, 1, 63, 64} {
			try(n, other, 2)
			try(other, n, 2)
			try(other, 3, max(0, n))
			try(3, other, max(0, n))
		}
	}
}

// P12.1, Put: each thing that may be wrong, alone and with another one.
func TestPutWrong(t *testing.T) {
	r := rand.New(rand.NewPCG(12, 2))
	putErrs(t, api.Commit{})
	putErrs(t, api.Commit{Worker: 3, Step: 4, Root: someHash(r), Batches: []api.Hash{}})
	putErrs(t, api.Commit{Worker: 3, Step: 4, Root: someHash(r), Batches: someHashes(r, 64)[:0]})
	for _, n := range []int{-1, -2, -63, -64, -65, -128, -256, math.MinInt, math.MinInt + 1, -1 << 32, -1<<32 + 1, 64, 65, 127, 128, 256, 1 << 16, 1 << 32, 1<<32 + 1, math.MaxInt} {
		for _, batches := range []int{0, 1, 2, 64, 65} {
			l := someHashes(r, batches)
			putErrs(t, api.Commit{Worker: n, Root: someHash(r), Batches: l})
			putErrs(t, api.Commit{Worker: n, Step: 63, Root: someHash(r), Batches: l})
			putErrs(t, api.Commit{Step: n, Root: someHash(r), Batches: l})
			putErrs(t, api.Commit{Worker: 63, Step: n, Root: someHash(r), Batches: l})
			putErrs(t, api.Commit{Worker: n, Step: n, Root: someHash(r), Batches: l})
		}
	}
	for _, batches := range []int{0, 65, 66, 127, 128, 129, 256, 300} {
		putErrs(t, api.Commit{Worker: 1, Step: 2, Root: someHash(r), Batches: someHashes(r, batches)})
	}
}

// P12.3: commitments at random, themselves again.
func TestAgain(t *testing.T) {
	r := rand.New(rand.NewPCG(12, 3))
	for range 5000 {
		c := someCommit(r)
		putIs(t, c, bytes(c))
	}
}

// P12.3: no two commitments have the same bytes, those too that are told apart
// by one bit, or by the order of their sums.
func TestNoOther(t *testing.T) {
	r := rand.New(rand.NewPCG(12, 4))
	whose := map[string]api.Commit{}
	met := func(c api.Commit) {
		s, e := commit.Put(c)
		if other, ok := whose[s]; e != api.OK || ok && !alike(other, c) {
			t.Errorf("%x, %d: of %v, and of %v", s, e, other, c)
		}
		whose[s] = c
	}
	for range 1000 {
		c := someCommit(r)
		met(c)
		met(api.Commit{Worker: c.Step, Step: c.Worker, Root: c.Root, Batches: c.Batches})
		met(api.Commit{Worker: c.Worker, Step: c.Step, Root: c.Batches[0], Batches: slices.Concat([]api.Hash{c.Root}, c.Batches[1:])})
		for _, n := range []int{1, len(c.Batches)/2 + 1, min(64, len(c.Batches)+1)} {
			met(api.Commit{Worker: c.Worker, Step: c.Step, Root: c.Root, Batches: c.Batches[:n]})
		}
		turned := slices.Clone(c.Batches)
		slices.Reverse(turned)
		met(api.Commit{Worker: c.Worker, Step: c.Step, Root: c.Root, Batches: turned})
		at, bit := r.IntN(32), byte(1)<<r.IntN(8)
		c.Root[at] ^= bit
		met(c)
		c.Root[at] ^= bit
		c.Batches = slices.Clone(c.Batches)
		c.Batches[r.IntN(len(c.Batches))][at] ^= bit
		met(c)
	}
	if len(whose) < 4000 {
		t.Errorf("%d alone", len(whose))
	}
}

// The rules: what is handed in is left as it is, its spare room too, and what is
// handed out is new memory.
func TestMemory(t *testing.T) {
	r := rand.New(rand.NewPCG(12, 5))
	for _, n := range []int{1, 2, 64} {
		c := api.Commit{Worker: 1, Step: 2, Root: someHash(r), Batches: someHashes(r, n)}
		room := c.Batches[:cap(c.Batches)]
		kept := slices.Clone(room)
		s, _ := commit.Put(c)
		got, _ := commit.Get(s)
		commit.Keeps(c, nil, make([][]api.Msg, n))
		if !slices.Equal(room, kept) {
			t.Fatalf("%v became %v", kept, room)
		}
		got.Batches[0][0]++
		got.Batches = append(got.Batches, api.Hash{9})
		if !slices.Equal(room, kept) {
			t.Errorf("%v became %v: shared", kept, room)
		}
		getIs(t, s, c)
	}
}
