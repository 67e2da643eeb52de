package worker_test

import (
	"encoding/binary"
	"math/rand/v2"
	"slices"
	"strings"
	"testing"

	"modillion/api"
	"modillion/part"
	"modillion/state"
	"modillion/worker"
)

// bytes is what is saved of vertices behind so many steps: all numbers in it are
// below 128.
func bytes(step int, l []api.Vertex) string {
	s := string([]byte{83, byte(step), byte(len(l))})
	for _, x := range l {
		s += text(state.Put(x))
	}
	return s
}

// text is a short text as bytes.
func text(s string) string {
	return string([]byte{byte(len(s))}) + s
}

// read is what is saved in bytes, by the chapter's words, to a worker with these
// vertices, in a job of so many steps; false: it isn't so.
func read(s string, steps int, his []api.Vertex) (int, []api.Vertex, bool) {
	left := []byte(s)
	num := func() uint64 {
		n, size := binary.Uvarint(left)
		left = left[max(size, 0):]
		return n
	}
	first, step, many := num(), num(), num()
	if first != 83 || step > uint64(steps) || many != uint64(len(his)) {
		return 0, nil, false
	}
	var l []api.Vertex
	for i := range his {
		n := num()
		if n > uint64(len(left)) {
			return 0, nil, false
		}
		x, e := state.Get(string(left[:n]))
		left = left[n:]
		if e != api.OK || x.Has || x.ID != his[i].ID {
			return 0, nil, false
		}
		l = append(l, x)
	}
	// Whatever was told in more bytes than it takes, or stands behind it all, is
	// told otherwise here.
	return int(step), l, bytes(int(step), l) == s
}

// loadErrs holds Load to ErrWorkForm, and the worker to be as he was.
func loadErrs(t *testing.T, k *worker.Worker, s string) {
	t.Helper()
	was := look(k)
	if e := k.Load(s); e != api.ErrWorkForm {
		t.Errorf("%q: %d", s, e)
	}
	if !same(look(k), was) {
		t.Errorf("%q: %v became %v", s, was, look(k))
	}
}

// loadIs holds Load to OK, and the worker to be so.
func loadIs(t *testing.T, k *worker.Worker, s string, step int, l []api.Vertex) {
	t.Helper()
	if e := k.Load(s); e != api.OK {
		t.Errorf("%q: %d", s, e)
	}
	is(t, k, step, l, nil)
}

// saves holds Save to bytes.
func saves(t *testing.T, k *worker.Worker, want string) {
	t.Helper()
	if s := k.Save(); s != want {
		t.Errorf("%q, not %q", s, want)
	}
}

// P13.4, Save: bytes written out, ahead of the first step and behind each one.
func TestSaveExamples(t *testing.T) {
	k := made(t, small(), job("max", 0, 2), 2, 1)
	saves(t, k, "S\x00\x02\x05\x03\x74\x01\x00\x00\x05\x06\x52\x01\x00\x00")
	k.Do(0, nil)
	saves(t, k, "S\x01\x02\x05\x03\x74\x00\x00\x00\x05\x06\x52\x00\x00\x00")
	k.Do(1, []api.Msg{msg(3, 6, 300)})
	saves(t, k, "S\x02\x02\x05\x03\x74\x00\x00\x00\x06\x06\xd8\x04\x00\x00\x00")
	k = made(t, of(1), job("rank", 0, 64), 1, 0)
	saves(t, k, "S\x00\x01\x07\x00\x80\x80\x08\x01\x00\x00")
	for at := range 64 {
		k.Do(at, nil)
	}
	saves(t, k, "S\x40\x01\x07\x00\xcc\x99\x01\x00\x00\x00")
	k = made(t, of(1), job("rank", 0, 64), 2, 1)
	saves(t, k, "S\x00\x00")
	k.Do(0, nil)
	saves(t, k, "S\x01\x00")
}

// P13.4, Load: bytes written out, into a worker who is somewhere else.
func TestLoadExamples(t *testing.T) {
	k := made(t, small(), job("max", 0, 2), 2, 1)
	loadIs(t, k, "S\x01\x02\x05\x03\x74\x00\x00\x00\x05\x06\x52\x01\x00\x00", 1, []api.Vertex{off(3, 58), on(6, 41)})
	loadIs(t, k, "S\x02\x02\x05\x03\x01\x01\x00\x00\x06\x06\xd8\x04\x00\x00\x00", 2, []api.Vertex{on(3, -1), off(6, 300)})
	doErrs(t, k, 2, nil, api.ErrWorkStep)
	// Back to the first step, of vertices that no job begins with.
	loadIs(t, k, "S\x00\x02\x05\x03\x00\x00\x00\x00\x05\x06\x02\x00\x00\x00", 0, []api.Vertex{off(3, 0), off(6, 1)})
	k.Do(0, nil)
	is(t, k, 1, []api.Vertex{off(3, 0), off(6, 1)}, []api.Vertex{off(3, 0), off(6, 1)})
	// The greatest values that may be.
	loadIs(t, k, "S\x01\x02\x0c\x03\x80\x80\x80\x80\x80\x80\x80\x04\x01\x00\x00\x0c\x06\xff\xff\xff\xff\xff\xff\xff\x03\x00\x00\x00", 1, []api.Vertex{on(3, great), off(6, -great)})
	none := made(t, of(1), job("rank", 0, 64), 2, 1)
	loadIs(t, none, "S\x40\x00", 64, nil)
	loadIs(t, none, "S\x00\x00", 0, nil)
}

// P13.4, Load: what was saved behind each step is loaded by the same worker and
// by another one of the same job, who goes on with the same answers.
func TestLoadGoesOn(t *testing.T) {
	for seed := range uint64(150) {
		r := rand.New(rand.NewPCG(seed, 14))
		g := someGraph(r, 1+r.IntN(12), 1+r.IntN(4))
		j := job(tags()[seed%7], r.IntN(g.N), 1+r.IntN(6))
		workers := []int{1, 2, 3, 64}[r.IntN(4)]
		w := part.Owner(r.IntN(g.N), workers)
		k := made(t, g, j, workers, w)
		var in [][]api.Msg
		for at := range j.Steps {
			in = append(in, someMsgs(r, g, g.N))
			for k.Do(at, in[at]).Err != api.OK {
				in[at] = someMsgs(r, g, g.N)
			}
		}
		k = made(t, g, j, workers, w)
		for step := range j.Steps + 1 {
			s, l := k.Save(), k.Vertices()
			again, other := made(t, g, j, workers, w), made(t, g, j, workers, w)
			other.Do(0, in[0])
			loadIs(t, k, s, step, l)
			loadIs(t, again, s, step, l)
			loadIs(t, other, s, step, l)
			for at := step; at < j.Steps; at++ {
				want := k.Do(at, in[at])
				doIs(t, again, at, in[at], want)
				doIs(t, other, at, in[at], want)
				if !same(look(k), look(other)) {
					t.Errorf("step %d, then %d: %v, not %v", step, at, look(other), look(k))
				}
			}
			k.Load(s)
			if step < j.Steps {
				k.Do(step, in[step])
			}
		}
	}
}

// P13.4 and P1, Load: ErrWorkForm of what is wrong in one place alone, ahead of a
// step, behind one, and behind a Load.
func TestLoadWrong(t *testing.T) {
	k := made(t, small(), job("max", 0, 2), 2, 1)
	three, six := text("\x03\x74\x00\x00\x00"), text("\x06\x52\x00\x00\x00")
	great, long := strings.Repeat("\xff", 9)+"\x01", strings.Repeat("\xff", 8)+"\x7f"
	wrong := []string{
		"", "S", "S\x00", "S\x01\x02",
		// Another first byte, or it in more bytes than it takes.
		"T\x01\x02" + three + six, "s\x01\x02" + three + six, "C\x01\x02" + three + six, "\x00\x01\x02" + three + six, "\xd3\x00\x01\x02" + three + six, "\xd3\x01\x02" + three + six, "\x01\x02" + three + six, "SS\x01\x02" + three + six,
		// More steps than the job's, or so many in more bytes than it takes.
		"S\x03\x02" + three + six, "S\x40\x02" + three + six, "S\x41\x02" + three + six, "S" + great + "\x02" + three + six, "S" + long + "\x02" + three + six, "S\x80\x80\x80\x80\x10\x02" + three + six, "S\x81\x00\x02" + three + six, "S\x80\x00\x02" + three + six, "S" + great + "\x01\x02" + three + six,
		// How many vertices there are.
		"S\x01\x00", "S\x01\x01" + three, "S\x01\x01" + six, "S\x01\x03" + three + six, "S\x01\x01" + three + six, "S\x01\x00" + three + six, "S\x01\x82\x00" + three + six, "S\x01" + great + three + six, "S\x01" + long + three + six, "S\x01\x82\x80\x80\x80\x10" + three + six,
		"S\x01\x03" + three + six + text("\x07\x00\x00\x00\x00"), "S\x01\x03" + text("\x00\x00\x00\x00\x00") + three + six, "S\x01\x02" + three + six + six, "S\x01\x02" + three + six + "\x00",
		// Which ones they are.
		"S\x01\x02" + six + three, "S\x01\x02" + three + three, "S\x01\x02" + six + six, "S\x01\x03" + three + three + six, "S\x01\x02" + three + text("\x07\x52\x00\x00\x00"), "S\x01\x02" + three + text("\x05\x52\x00\x00\x00"), "S\x01\x02" + text("\x00\x74\x00\x00\x00") + six, "S\x01\x02" + text("\x43\x74\x00\x00\x00") + six,
		// To one of them something came.
		"S\x01\x02" + three + text("\x06\x52\x00\x01\x00"), "S\x01\x02" + three + text("\x06\x52\x01\x01\x0a"), "S\x01\x02" + text("\x03\x74\x00\x01\x0a") + six, "S\x01\x02" + text("\x03\x74\x00\x01\x00") + six,
		// Texts that are no vertex's bytes.
		"S\x01\x02" + three + text("\x06\x52\x00\x00\x02"), "S\x01\x02" + three + text("\x06\x52\x02\x00\x00"), "S\x01\x02" + three + text("\x06\x52\x00\x02\x00"), "S\x01\x02" + text("") + six, "S\x01\x02" + three + text(""), "S\x01\x02" + text("\x03\x74\x00\x00") + six, "S\x01\x02" + text("\x03\x74\x00\x00\x00\x00") + six, "S\x01\x02" + text("\x83\x00\x74\x00\x00\x00") + six, "S\x01\x02" + text("\x03\xf4\x00\x00\x00\x00") + six,
		"S\x01\x02" + three + text("\x06\x82\x80\x80\x80\x80\x80\x80\x04\x00\x00\x00"), "S\x01\x02" + three + text("\x06\x81\x80\x80\x80\x80\x80\x80\x04\x00\x00\x00"),
		// A text's length.
		"S\x01\x02\x85\x00" + three[1:] + six, "S\x01\x02\x04" + three[1:] + six, "S\x01\x02\x06" + three[1:] + six, "S\x01\x02" + great + three[1:] + six, "S\x01\x02" + long + three[1:] + six, "S\x01\x02" + three + "\x06" + six[1:], "S\x01\x02" + three + "\x04" + six[1:],
	}
	all := func() {
		t.Helper()
		for _, s := range wrong {
			loadErrs(t, k, s)
		}
	}
	all()
	k.Do(0, nil)
	all()
	k.Do(1, []api.Msg{msg(3, 6, 99)})
	all()
	loadIs(t, k, "S\x01\x02"+three+six, 1, []api.Vertex{off(3, 58), off(6, 41)})
	all()
	// What another worker saved is none of his.
	first := made(t, small(), job("max", 0, 2), 2, 0)
	loadErrs(t, k, first.Save())
	loadErrs(t, first, k.Save())
	loadErrs(t, made(t, small(), job("max", 0, 2), 1, 0), k.Save())
}

// P13.4 and P1, Load: ErrWorkForm of the bytes of one who has no vertices, where
// these aren't so.
func TestLoadWrongOfNone(t *testing.T) {
	k := made(t, of(1), job("rank", 0, 63), 2, 1)
	for _, s := range []string{"", "S", "S\x00", "S\x00\x01", "S\x00\x80", "S\x00\x80\x00", "S\x80\x00\x00", "S\x80", "S\x80\x00", "S\x40\x00", "S\x41\x00", "S\x00\x00\x00", "S\x00\x01\x05\x00\x00\x00\x00\x00", "\xd3\x00\x00\x00", "\xd3\x00", "T\x00\x00", "\x80", strings.Repeat("\xff", 40)} {
		loadErrs(t, k, s)
	}
	loadIs(t, k, "S\x3f\x00", 63, nil)
}

// P13.4, Load: all bytes that one has, each cut, each with one byte more, and each
// byte changed to any other: held against the chapter's words.
func TestLoadChanged(t *testing.T) {
	right, wrong := 0, 0
	for _, x := range []struct {
		g          api.Graph
		workers, w int
	}{{small(), 2, 1}, {small(), 2, 0}, {of(1), 1, 0}, {of(1), 2, 1}, {of(64), 64, part.Owner(63, 64)}} {
		j := job("sssp", 0, 5)
		k := made(t, x.g, j, x.workers, x.w)
		his := k.Vertices()
		try := func(s string) {
			t.Helper()
			step, l, ok := read(s, 5, his)
			if !ok {
				wrong++
				loadErrs(t, k, s)
				return
			}
			right++
			loadIs(t, k, s, step, l)
		}
		for at := range 3 {
			s := k.Save()
			for i := range s {
				try(s[:i])
				try(s[:i] + s[i+1:])
				for c := range 256 {
					b := []byte(s)
					b[i] = byte(c)
					try(string(b))
				}
			}
			for c := range 256 {
				try(s + string([]byte{byte(c)}))
				try(string([]byte{byte(c)}) + s)
			}
			k.Load(s)
			k.Do(at, []api.Msg{msg(0, 3, 300), msg(0, 1, 1<<40), msg(0, 0, great-99)})
		}
	}
	if right < 1000 || wrong < 10000 {
		t.Errorf("%d right, %d wrong", right, wrong)
	}
}

// P13.4, Load: several bytes changed at random, held against the chapter's words.
func TestLoadMixed(t *testing.T) {
	k := made(t, small(), job("label", 0, 9), 2, 1)
	his := k.Vertices()
	right, wrong := 0, 0
	for seed := range uint64(20000) {
		r := rand.New(rand.NewPCG(seed, 15))
		l := slices.Clone(his)
		for i := range l {
			l[i].Value, l[i].Active = r.Int64N(300)-150, r.IntN(2) == 0
			if r.IntN(9) == 0 {
				l[i].Has, l[i].In = true, r.Int64N(3)
			}
			if r.IntN(9) == 0 {
				l[i].ID = r.IntN(8)
			}
		}
		b := []byte(bytes(r.IntN(11), l))
		for range r.IntN(3) {
			b[r.IntN(len(b))] = byte(r.IntN(9))
		}
		step, want, ok := read(string(b), 9, his)
		if !ok {
			wrong++
			loadErrs(t, k, string(b))
			continue
		}
		right++
		loadIs(t, k, string(b), step, want)
	}
	if right < 3000 || wrong < 3000 {
		t.Errorf("%d right, %d wrong", right, wrong)
	}
}
