package batch_test

import (
	"math"
	"math/rand/v2"
	"slices"
	"strings"
	"testing"

	"modillion/api"
	"modillion/batch"
	"modillion/wire"
)

// getErrs holds Get to an error, with no message beside it (P1).
func getErrs(t *testing.T, s string, want api.Errno) {
	t.Helper()
	if l, e := batch.Get(s); len(l) > 0 || e != want {
		t.Errorf("%x: %v, %d, not %d", s, l, e, want)
	}
}

// getWants is what Get answers by the chapter's words, gone through one behind
// the other.
func getWants(s string) ([]api.Msg, api.Errno) {
	in := wire.NewIn(s)
	n := in.Num()
	if e := in.Err(); e != api.OK {
		return nil, e
	}
	if n > 512 {
		return nil, api.ErrBatchForm
	}
	var l []api.Msg
	wide := false
	for range n {
		x := wire.NewIn(in.Text(40))
		if e := in.Err(); e != api.OK {
			return nil, e
		}
		from, to, val := x.Num(), x.Num(), x.Int()
		if e := x.End(); e != api.OK {
			return nil, e
		}
		wide = wide || from > 63 || to > 63
		l = append(l, msg(int(from%64), int(to%64), val))
	}
	if e := in.End(); e != api.OK {
		return nil, e
	}
	if wide || !may(l) {
		return nil, api.ErrBatchForm
	}
	for i := range l {
		if i > 0 && !ahead(l[i-1], l[i]) {
			return nil, api.ErrBatchForm
		}
	}
	return l, api.OK
}

// three is a batch's bytes, its rows of one, of two and of eight bytes of Val.
func three() string {
	return bytes("\x3f\x00\x00", "\x00\x01\x80\x01", "\x03\x01"+above)
}

// P11.2, Get: ErrWireShort, wherever the bytes end too early.
func TestGetShort(t *testing.T) {
	getIs(t, three(), []api.Msg{msg(63, 0, 0), msg(0, 1, 64), msg(3, 1, great)})
	for end := range three() {
		getErrs(t, three()[:end], api.ErrWireShort)
	}
	l := every(512)
	s := bytes(rowsOf(l)...)
	for end := range s {
		getErrs(t, s[:end], api.ErrWireShort)
	}
	for _, s := range []string{"\x80", "\xff", strings.Repeat("\xff", 9), "\x01\x80", "\x01\xff", "\x01\x03", "\x01\x28"} {
		getErrs(t, s, api.ErrWireShort)
	}
}

// P11.2, Get: of the number of messages what chapter 2 says, and ErrBatchForm of
// more than 512, ahead of whatever is wrong behind it.
func TestGetNumber(t *testing.T) {
	for _, s := range []string{"\x80\x00", "\x83\x00", "\x80\x80\x00", strings.Repeat("\x80", 9) + "\x02", strings.Repeat("\xff", 10), strings.Repeat("\xff", 9) + "\x02"} {
		getErrs(t, s, api.ErrWireForm)
		getErrs(t, s+three()[1:], api.ErrWireForm)
	}
	l := every(600)
	rows := rowsOf(l)
	getErrs(t, num(512), api.ErrWireShort)
	getErrs(t, bytes(rows[:512]...)+"\x00", api.ErrWireMost)
	getErrs(t, bytes(rows[:513]...), api.ErrBatchForm)
	for _, n := range []uint64{513, 514, 600, 1024, 1 << 16, 1 << 31, 1 << 32, 1<<32 + 1, 1<<63 - 1, 1 << 63, math.MaxUint64} {
		for _, behind := range []string{"", "\x80", "\x80\x00", "\x29", "\x03", "\x01\x00", "\x03\x00\x01\x0a", bytes(rows...)[2:]} {
			getErrs(t, num(n)+behind, api.ErrBatchForm)
		}
	}
}

// P11.2, Get: of a text more than 40 bytes are ErrWireMost, whether they are
// there or not; of one that is no longer what is in it counts.
func TestGetText(t *testing.T) {
	for _, n := range []uint64{41, 42, 127, 128, 1 << 20, 1 << 32, 1 << 63, math.MaxUint64} {
		getErrs(t, "\x01"+num(n), api.ErrWireMost)
		getErrs(t, "\x01"+num(n)+"\x00\x01\x0a", api.ErrWireMost)
		getErrs(t, "\x01"+num(n)+strings.Repeat("\x80", 200), api.ErrWireMost)
		getErrs(t, "\x02\x03\x00\x00\x00"+num(n)+"\x00\x01\x0a", api.ErrWireMost)
	}
	for n := 4; n <= 40; n++ {
		getErrs(t, bytes("\x00\x01\x0a"+strings.Repeat("\x80", n-3)), api.ErrWireMost)
		getErrs(t, bytes("\x80\x00"+strings.Repeat("\x00", n-2)), api.ErrWireForm)
	}
	long := strings.Repeat("\xff", 9) + "\x01"
	getErrs(t, bytes(long+long+long), api.ErrBatchForm)                           // 30 bytes: read to their end
	getErrs(t, bytes(long+long+long+strings.Repeat("\x00", 10)), api.ErrWireMost) // 40 bytes: as a text they may be
	getErrs(t, bytes("\x00\x01\x0a"+strings.Repeat("\x80", 38)), api.ErrWireMost)
	for _, s := range []string{"\x83\x00", "\x80\x00", strings.Repeat("\xff", 10)} {
		getErrs(t, "\x01"+s+"\x00\x01\x0a", api.ErrWireForm)
	}
}

// P11.2, Get: what is in a text is read to its end.
func TestGetRow(t *testing.T) {
	for _, row := range []string{"", "\x00", "\x00\x01", "\x80", "\x00\x80", "\x00\x01\x80", "\x00\x01" + above[:7], "\xff\xff"} {
		getErrs(t, bytes(row), api.ErrWireShort)
		getErrs(t, bytes("\x00\x00\x00", row), api.ErrWireShort)
		getErrs(t, bytes(row, "\x00\x01\x0a"), api.ErrWireShort)
	}
	for _, row := range []string{"\x00\x01\x0a\x00", "\x00\x01\x0a\x80", "\x00\x01\x0a\x03\x00\x02\x0a", "\x00\x01" + above + "\x00"} {
		getErrs(t, bytes(row), api.ErrWireMost)
		getErrs(t, bytes("\x00\x00\x00", row), api.ErrWireMost)
		getErrs(t, bytes(row, "\x01\x01\x0a"), api.ErrWireMost)
	}
	for _, n := range []string{"\x80\x00", "\x81\x80\x00", strings.Repeat("\x80", 9) + "\x02", strings.Repeat("\xff", 10)} {
		for _, row := range []string{n + "\x01\x0a", "\x00" + n + "\x0a", "\x00\x01" + n} {
			getErrs(t, bytes(row), api.ErrWireForm)
			getErrs(t, bytes("\x00\x00\x00", row), api.ErrWireForm)
			getErrs(t, bytes(row, "\x01\x01\x0a"), api.ErrWireForm)
		}
	}
}

// P11.2, Get: ErrWireMost, if something is left.
func TestGetMost(t *testing.T) {
	for _, s := range []string{"\x00", "\x01\x03\x00\x01\x0a", three()} {
		for _, more := range []string{"\x00", "\x01", "\x80", "\xff", "\x03\x3f\x3f\x00", s, strings.Repeat("\x00", 99)} {
			getErrs(t, s+more, api.ErrWireMost)
		}
	}
}

// P11.2, Get: ErrBatchForm of a From or a To above 63, however great.
func TestGetVertex(t *testing.T) {
	for _, n := range []uint64{64, 65, 127, 128, 256, 1 << 32, 1<<32 + 1, 1<<63 - 1, 1 << 63, 1<<63 + 1, math.MaxUint64 - 63, math.MaxUint64} {
		getErrs(t, bytes(num(n)+"\x01\x0a"), api.ErrBatchForm)
		getErrs(t, bytes("\x01"+num(n)+"\x0a"), api.ErrBatchForm)
		getErrs(t, bytes("\x00\x00\x00", "\x01"+num(n)+"\x0a"), api.ErrBatchForm)
		getErrs(t, bytes(num(n)+"\x01\x0a", "\x01\x02\x0a"), api.ErrBatchForm)
	}
	getIs(t, bytes("\x3f\x3f\x0a"), []api.Msg{msg(63, 63, 5)})
}

// P11.2, Get: ErrBatchForm of a Val that is too great or too small.
func TestGetValue(t *testing.T) {
	for _, n := range []int64{great + 1, great + 2, 2 * great, 1 << 62, math.MaxInt64, -great - 1, -great - 2, -2 * great, math.MinInt64 + 1, math.MinInt64} {
		getErrs(t, bytes("\x00\x01"+signed(n)), api.ErrBatchForm)
		getErrs(t, bytes("\x00\x00\x00", "\x00\x01"+signed(n)), api.ErrBatchForm)
	}
	getIs(t, bytes("\x00\x01"+above, "\x01\x01"+below), []api.Msg{msg(0, 1, great), msg(1, 1, -great)})
}

// P11.2, Get: ErrBatchForm of messages out of order, and of one that is there
// twice, with the same Val or with another one.
func TestGetOrder(t *testing.T) {
	a, b, c, d := "\x05\x00\x00", "\x00\x01\x00", "\x01\x01\x00", "\x00\x02\x00"
	getIs(t, bytes(a, b, c, d), []api.Msg{msg(5, 0, 0), msg(0, 1, 0), msg(1, 1, 0), msg(0, 2, 0)})
	for _, rows := range [][]string{
		{b, a}, {c, b}, {d, c}, {d, a}, {b, a, c, d}, {a, c, b, d}, {a, b, d, c}, {d, a, b, c}, {b, c, d, a}, {d, c, b, a},
		{a, a}, {b, b, c}, {a, b, b}, {a, b, c, d, d}, {a, b, c, a},
		{b, "\x00\x01\x01"}, {b, "\x00\x01\x02"}, {"\x00\x01\x02", b}, {a, b, c, "\x01\x01" + above},
	} {
		getErrs(t, bytes(rows...), api.ErrBatchForm)
	}
	l := every(512)
	rows := rowsOf(l)
	for at := 1; at < 512; at += 51 {
		other := slices.Clone(rows)
		other[at], other[at-1] = other[at-1], other[at]
		getErrs(t, bytes(other...), api.ErrBatchForm)
		other[at] = other[at-1]
		getErrs(t, bytes(other...), api.ErrBatchForm)
	}
}

// P11.2 and P1, Get: of bytes that are wrong in two ways the error named first
// is told, and of two of reading the one that is met first.
func TestGetTwoWrong(t *testing.T) {
	good := "\x00\x01\x0a"
	for _, rows := range [][]string{
		{"\x40\x01\x0a"}, {"\x01\x40\x0a"}, {"\x00\x01" + signed(great+1)}, {good, good}, {good, "\x00\x00\x0a"}, {good, "\x00\x01\x0c"},
	} {
		s := bytes(rows...)
		getErrs(t, s, api.ErrBatchForm)
		getErrs(t, s+"\x00", api.ErrWireMost)
		getErrs(t, s[:len(s)-1], api.ErrWireShort)
		getErrs(t, bytes(append(slices.Clone(rows), "\x01\x02")...), api.ErrWireShort)
		getErrs(t, bytes(append(slices.Clone(rows), "\x01\x02\x00\x00")...), api.ErrWireMost)
		getErrs(t, bytes(append(slices.Clone(rows), "\x01\x02\x80\x00")...), api.ErrWireForm)
	}
	short, most, form := "\x00\x01", "\x00\x01\x00\x00", "\x00\x80\x00\x00"
	getErrs(t, bytes(short, most, form), api.ErrWireShort)
	getErrs(t, bytes(most, form, short), api.ErrWireMost)
	getErrs(t, bytes(form, short, most), api.ErrWireForm)
	getErrs(t, bytes(short, strings.Repeat("\x00", 41)), api.ErrWireShort) // what is in a text, ahead of the next text
	getErrs(t, bytes(form, strings.Repeat("\x00", 41)), api.ErrWireForm)
	getErrs(t, "\x02"+text(form), api.ErrWireForm)
	getErrs(t, "\x02"+text(most), api.ErrWireMost)
	getErrs(t, "\x02"+text(most)+"\x80\x00", api.ErrWireMost)
	getErrs(t, "\x01"+text(short)+"\x00", api.ErrWireShort)
	getErrs(t, "\x01"+text(form)+"\x00", api.ErrWireForm)
	getErrs(t, "\x01\x29"+strings.Repeat("\x00", 60), api.ErrWireMost)
	getErrs(t, "\x02\x03\x40\x01\x0a\x03", api.ErrWireShort)
}

// P11.2 and P11.3: all rows of up to six of some bytes. Of any that are got Put
// has just these again.
func TestGetAllShort(t *testing.T) {
	some := []byte{0, 1, 2, 3, 4, 63, 64, 128}
	got := 0
	var try func(s string, more int)
	try = func(s string, more int) {
		if tryGet(t, s) {
			got++
		}
		if more > 0 {
			for _, c := range some {
				try(s+string([]byte{c}), more-1)
			}
		}
	}
	try("", 6)
	if got < 100 {
		t.Errorf("%d were got", got)
	}
}

// tryGet holds Get to the chapter's words, and Put to the same bytes again, if
// they are got; whether they are.
func tryGet(t *testing.T, s string) bool {
	t.Helper()
	want, e := getWants(s)
	if e != api.OK {
		getErrs(t, s, e)
		return false
	}
	getIs(t, s, want)
	if again, e := batch.Put(want); again != s || e != api.OK {
		t.Errorf("%x became %x, %d", s, again, e)
	}
	return true
}

// P11.2 and P11.3: bytes of batches at random, one or two of them changed, left
// out or written twice, and rows at random.
func TestGetSome(t *testing.T) {
	r := rand.New(rand.NewPCG(11, 32))
	count := [2]int{}
	met := func(s string) {
		if tryGet(t, s) {
			count[0]++
		} else {
			count[1]++
		}
	}
	for range 20000 {
		l := someBatch(r, 4)
		s := bytes(rowsOf(l)...)
		for range 1 + r.IntN(2) {
			at := r.IntN(max(1, len(s)))
			end := min(at+1, len(s))
			one := s[at:end]
			s = s[:at] + []string{string([]byte{byte(r.IntN(256))}), "", one + one, "\x00"}[r.IntN(4)] + s[end:]
		}
		met(s)
		var rows []string
		for range r.IntN(4) {
			rows = append(rows, num(uint64(r.IntN(65)))+num(uint64(r.IntN(3)))+signed(r.Int64N(5)-2))
		}
		met(bytes(rows...))
	}
	if count[0] < 1000 || count[1] < 1000 {
		t.Errorf("%v", count)
	}
}

// P11.3: no two batches have the same bytes.
func TestNoOther(t *testing.T) {
	r := rand.New(rand.NewPCG(11, 33))
	whose := map[string][]api.Msg{}
	for range 8000 {
		l := inOrder(someBatch(r, 3))
		s, _ := batch.Put(l)
		if other, ok := whose[s]; ok && !slices.Equal(other, l) {
			t.Errorf("%x: of %v, and of %v", s, other, l)
		}
		whose[s] = l
	}
	if len(whose) < 4000 {
		t.Errorf("%d alone", len(whose))
	}
}
