package batch_test

import (
	"math"
	"math/rand/v2"
	"slices"
	"testing"

	"modillion/api"
	"modillion/batch"
)

// great is the greatest value that may be, and above and below the bytes of it
// and of the least one.
const (
	great = 1 << 50
	above = "\x80\x80\x80\x80\x80\x80\x80\x04"
	below = "\xff\xff\xff\xff\xff\xff\xff\x03"
)

// msg is a message, told shortly.
func msg(from, to int, val int64) api.Msg {
	return api.Msg{From: from, To: to, Val: val}
}

// list is messages with some room behind them.
func list(l ...api.Msg) []api.Msg {
	return append(slices.Clone(l), msg(9, 9, 9), msg(8, 8, 8))[:len(l)]
}

// num is a number as bytes, by chapter 2's words.
func num(n uint64) string {
	if n < 128 {
		return string([]byte{byte(n)})
	}
	return string([]byte{byte(n%128) + 128}) + num(n/128)
}

// signed is one that may be below 0 as bytes, by chapter 2's words.
func signed(n int64) string {
	if n < 0 {
		return num(2*uint64(-(n+1)) + 1) // -2n - 1, that of the least one too
	}
	return num(2 * uint64(n))
}

// text is bytes as a text, by chapter 2's words.
func text(s string) string {
	return num(uint64(len(s))) + s
}

// row is a message's, by the chapter's words.
func row(m api.Msg) string {
	if m.From < 0 || m.To < 0 {
		return ""
	}
	return num(uint64(m.From)) + num(uint64(m.To)) + signed(m.Val)
}

// bytes is those of rows just as they stand, be they a batch's or not.
func bytes(rows ...string) string {
	s := num(uint64(len(rows)))
	for _, x := range rows {
		s += text(x)
	}
	return s
}

// ahead is whether a message stands ahead of another one, by chapter 8's words.
func ahead(a, b api.Msg) bool {
	if a.To != b.To {
		return a.To < b.To
	}
	if a.From != b.From {
		return a.From < b.From
	}
	return a.Val < b.Val
}

// inOrder is messages in order: each stands behind as many as are ahead of it.
func inOrder(l []api.Msg) []api.Msg {
	sorted := make([]api.Msg, len(l))
	for i, m := range l {
		at := 0
		for k, other := range l {
			if ahead(other, m) || other == m && k < i {
				at++
			}
		}
		sorted[at] = m
	}
	return sorted
}

// rowsOf is each one's row, in order.
func rowsOf(l []api.Msg) []string {
	var rows []string
	for _, m := range inOrder(l) {
		rows = append(rows, row(m))
	}
	return rows
}

// may is whether messages are a batch, by the chapter's words, asked pair by pair.
func may(l []api.Msg) bool {
	for i, m := range l {
		if m.From < 0 || m.From > 63 || m.To < 0 || m.To > 63 || m.Val < -great || m.Val > great {
			return false
		}
		for _, other := range l[:i] {
			if other.From == m.From && other.To == m.To {
				return false
			}
		}
	}
	return len(l) <= 512
}

// every is n messages that may be, no two alike, in no order.
func every(n int) []api.Msg {
	var l []api.Msg
	for i := range n {
		v := i * 1573 % 4096
		l = append(l, msg(v/64, v%64, int64(i)-200))
	}
	return l
}

// someBatch is one at random, of at most n messages, in no order.
func someBatch(r *rand.Rand, n int) []api.Msg {
	var l []api.Msg
	for _, v := range r.Perm(4096)[:r.IntN(n+1)] {
		most := int64(1) << r.IntN(51)
		l = append(l, msg(v/64, v%64, r.Int64N(2*most+1)-most))
	}
	return l
}

// putIs holds Put, Check and Get to the bytes of messages, and to them in order.
func putIs(t *testing.T, l []api.Msg, want string) {
	t.Helper()
	if e := batch.Check(l); e != api.OK {
		t.Errorf("%v: %d", l, e)
	}
	if s, e := batch.Put(l); s != want || e != api.OK {
		t.Errorf("%v: %x, %d, not %x", l, s, e, want)
	}
	getIs(t, want, inOrder(l))
}

// getIs holds Get to messages.
func getIs(t *testing.T, s string, want []api.Msg) {
	t.Helper()
	if l, e := batch.Get(s); !slices.Equal(l, want) || e != api.OK {
		t.Errorf("%x: %v, %d, not %v", s, l, e, want)
	}
}

// putErrs holds Check and Put to ErrBatchForm, with no bytes beside it (P1).
func putErrs(t *testing.T, l []api.Msg) {
	t.Helper()
	if e := batch.Check(l); e != api.ErrBatchForm {
		t.Errorf("%v: %d", l, e)
	}
	if s, e := batch.Put(l); s != "" || e != api.ErrBatchForm {
		t.Errorf("%v: %x, %d", l, s, e)
	}
}

// P11.1 and P11.2: the chapter's example, and others worked out beside the
// program, the least and the greatest of each thing among them.
func TestExamples(t *testing.T) {
	for _, x := range []struct {
		l []api.Msg
		s string
	}{
		{list(msg(0, 1, 5)), "\x01\x03\x00\x01\x0a"},
		{nil, "\x00"},
		{[]api.Msg{}, "\x00"},
		{list(), "\x00"},
		{list(msg(0, 0, 0)), "\x01\x03\x00\x00\x00"},
		{list(msg(63, 0, 0)), "\x01\x03\x3f\x00\x00"},
		{list(msg(0, 63, 0)), "\x01\x03\x00\x3f\x00"},
		{list(msg(63, 63, -1)), "\x01\x03\x3f\x3f\x01"},
		{list(msg(2, 3, -64)), "\x01\x03\x02\x03\x7f"},
		{list(msg(2, 3, 64)), "\x01\x04\x02\x03\x80\x01"},
		{list(msg(2, 3, 150)), "\x01\x04\x02\x03\xac\x02"},
		{list(msg(2, 3, -300)), "\x01\x04\x02\x03\xd7\x04"},
		{list(msg(0, 1, great)), "\x01\x0a\x00\x01" + above},
		{list(msg(0, 1, -great)), "\x01\x0a\x00\x01" + below},
		{list(msg(63, 63, great), msg(63, 62, -great)), "\x02\x0a\x3f\x3e" + below + "\x0a\x3f\x3f" + above},
		{list(msg(0, 2, 3), msg(1, 2, 3)), "\x02\x03\x00\x02\x06\x03\x01\x02\x06"},
		{list(msg(2, 0, 3), msg(2, 1, 3)), "\x02\x03\x02\x00\x06\x03\x02\x01\x06"},
		{list(msg(1, 0, 7), msg(0, 1, 7)), "\x02\x03\x01\x00\x0e\x03\x00\x01\x0e"},
		{list(msg(5, 9, 1), msg(4, 9, 2), msg(9, 4, 3), msg(0, 5, -4)), "\x04\x03\x09\x04\x06\x03\x00\x05\x07\x03\x04\x09\x04\x03\x05\x09\x02"},
	} {
		putIs(t, x.l, x.s)
	}
}

// P11.1: From and To count for the order as numbers, not by their bytes, To
// first, and Val not at all: no two have the same both.
func TestOrder(t *testing.T) {
	putIs(t, list(msg(10, 2, -5), msg(9, 2, 5), msg(1, 10, -9), msg(63, 1, 9)),
		"\x04\x03\x3f\x01\x12\x03\x09\x02\x0a\x03\x0a\x02\x09\x03\x01\x0a\x11")
}

// P11.1, Check and Put: each thing that may be wrong, alone, and among others.
func TestCheckWrong(t *testing.T) {
	var wrong []api.Msg
	for _, v := range []int{-1, -2, -64, math.MinInt, 64, 65, 127, 128, 1 << 32, 1<<32 + 1, -1 << 32, math.MaxInt} {
		wrong = append(wrong, msg(v, 1, 0), msg(1, v, 0), msg(v, v, 0))
	}
	for _, n := range []int64{great + 1, great + 2, 2 * great, 1<<62 + 1, math.MaxInt64, -great - 1, -great - 2, -2 * great, math.MinInt64 + 1, math.MinInt64} {
		wrong = append(wrong, msg(0, 1, n), msg(63, 63, n))
	}
	for _, m := range wrong {
		putErrs(t, list(m))
		putErrs(t, list(m, msg(5, 6, 7), msg(7, 6, 5)))
		putErrs(t, list(msg(5, 6, 7), m, msg(7, 6, 5)))
		putErrs(t, list(msg(5, 6, 7), msg(7, 6, 5), m))
	}
}

// P11.1, Check and Put: two with the same From and To, of one Val or of two,
// one behind the other or not. Those that have them the other way round may be.
func TestCheckTwice(t *testing.T) {
	for _, val := range []int64{4, 5, -4, great, 0} {
		for _, v := range []int{0, 1, 62, 63} {
			putErrs(t, list(msg(v, 9, 4), msg(v, 9, val)))
			putErrs(t, list(msg(9, v, 4), msg(9, v, val)))
			putErrs(t, list(msg(v, v, 4), msg(9, 8, 4), msg(8, 9, 4), msg(v, v, val)))
			putErrs(t, list(msg(7, v, 4), msg(v, 7, 4), msg(7, v, val)))
		}
	}
	putIs(t, list(msg(1, 2, 4), msg(2, 1, 4)), "\x02\x03\x02\x01\x08\x03\x01\x02\x08")
	for at := 1; at < 512; at += 73 {
		l := every(512)
		l[at] = msg(l[at/2].From, l[at/2].To, 77)
		putErrs(t, l)
	}
}

// P11.1, Check and Put: 512 may be, more may not, be they as they should.
func TestCheckMost(t *testing.T) {
	for _, n := range []int{127, 128, 511, 512} {
		l := every(n)
		putIs(t, l, bytes(rowsOf(l)...))
	}
	for _, n := range []int{513, 514, 1024, 4096} {
		putErrs(t, every(n))
		putErrs(t, make([]api.Msg, n))
	}
}

// P11.1, Check: messages at random, one or two of them changed.
func TestCheckSome(t *testing.T) {
	r := rand.New(rand.NewPCG(11, 29))
	count := [2]int{}
	for range 5000 {
		l := someBatch(r, 20)
		for range r.IntN(3) {
			if len(l) == 0 {
				break
			}
			m, other := &l[r.IntN(len(l))], l[r.IntN(len(l))]
			switch r.IntN(4) {
			case 0:
				m.From, m.To = other.From, other.To
			case 1:
				m.From = r.IntN(70) - 3
			case 2:
				m.To = r.IntN(70) - 3
			case 3:
				m.Val = []int64{great - 1, great, great + 1, -great, -great - 1, -great + 1}[r.IntN(6)]
			}
		}
		if !may(l) {
			count[0]++
			putErrs(t, l)
			continue
		}
		count[1]++
		putIs(t, l, bytes(rowsOf(l)...))
	}
	if count[0] < 500 || count[1] < 500 {
		t.Errorf("%v", count)
	}
}

// P11.3: of any messages in any order the same bytes, which are they again in order.
func TestAgain(t *testing.T) {
	r := rand.New(rand.NewPCG(11, 30))
	for range 80 {
		l := someBatch(r, 512)
		s, e := batch.Put(l)
		got, again := batch.Get(s)
		if e != api.OK || again != api.OK || len(got) != len(l) {
			t.Fatalf("%v: %x, %d; %v, %d", l, s, e, got, again)
		}
		root := batch.Root(l)
		for range 3 {
			r.Shuffle(len(l), func(i, k int) { l[i], l[k] = l[k], l[i] })
			if other, e := batch.Put(l); other != s || e != api.OK {
				t.Errorf("%v: %x, %d, not %x", l, other, e, s)
			}
			if batch.Root(l) != root {
				t.Errorf("%v: another root", l)
			}
			putIs(t, l, s)
		}
	}
}

// The rules: what is handed in is left as it is, its spare room too, and what is
// handed out is new memory.
func TestMemory(t *testing.T) {
	l := list(msg(3, 1, -1), msg(0, 1, 64), msg(63, 0, 0))
	room := l[:cap(l)]
	kept := slices.Clone(room)
	s, _ := batch.Put(l)
	rows := batch.Rows(l)
	batch.Check(l)
	batch.Root(l)
	if !slices.Equal(room, kept) {
		t.Fatalf("%v became %v", kept, room)
	}
	got, _ := batch.Get(s)
	got[0], rows[0] = msg(7, 7, 7), "x"
	_ = append(got, msg(7, 7, 8))
	_ = append(rows, "y")
	getIs(t, s, []api.Msg{msg(63, 0, 0), msg(0, 1, 64), msg(3, 1, -1)})
	if again := batch.Rows(l); again[0] == "x" || !slices.Equal(room, kept) {
		t.Errorf("%x, %v: shared", again, room)
	}
}
