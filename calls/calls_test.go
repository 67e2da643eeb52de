// Package calls holds what is promised of all calls that the chapters list,
// whatever they are given: promise P1, and the document's rules.
package calls

import (
	"cmp"
	"math"
	"math/rand/v2"
	"reflect"
	"slices"
	"strings"
	"testing"

	"modillion/api"
	"modillion/wire"
	"modillion/worker"
)

const tries = 1000

// TestCalls: none panics; with an error all else is the zero value; what is
// handed in stays as it is; the same arguments have the same answer.
func TestCalls(t *testing.T) {
	for _, c := range listed() {
		t.Run(c.name, func(t *testing.T) {
			for seed := range uint64(tries) {
				try(t, c, seed)
			}
		})
	}
}

func try(t *testing.T, c call, seed uint64) {
	given, alike, kept := arguments(c.f, seed), arguments(c.f, seed), arguments(c.f, seed)
	defer func() {
		if p := recover(); p != nil {
			t.Errorf("%#v: panic: %v", plain(kept), p)
		}
	}()
	told := answer(c.f, given)
	if again := answer(c.f, alike); !same(told, again) {
		t.Errorf("%#v: %#v, then %#v", plain(kept), plain(told), plain(again))
	}
	for i := range given {
		if !untouched(given[i], kept[i]) {
			t.Errorf("argument %d: %#v became %#v, or its spare room was changed", i, kept[i], given[i])
		}
	}
	if fault := beside(c.name, told); fault != "" {
		t.Errorf("%#v: %#v: %s", plain(kept), plain(told), fault)
	}
}

func answer(f any, l []reflect.Value) []reflect.Value {
	v := reflect.ValueOf(f)
	if v.Type().IsVariadic() {
		return v.CallSlice(l)
	}
	return v.Call(l)
}

// beside is what stands beside an error though nothing should.
func beside(name string, told []reflect.Value) string {
	if len(told) == 0 {
		return ""
	}
	e, ok := told[len(told)-1].Interface().(api.Errno)
	if !ok || e == api.OK {
		return ""
	}
	for i, v := range told[:len(told)-1] {
		if name == "graph.Read" && i == 1 && e == api.ErrGraphLine {
			continue // chapter 5 tells a line beside this error
		}
		if name == "seq.Run" && i == 1 && e == api.ErrProgFlow {
			continue // chapter 9 tells how many steps were done ahead of this error
		}
		if !v.IsZero() && !(v.Kind() == reflect.Slice && v.Len() == 0) {
			return "more than an error"
		}
	}
	return ""
}

// untouched is whether a value is as it was, the spare room of slices included;
// objects are passed over, as they may change.
func untouched(v, was reflect.Value) bool {
	switch v.Kind() {
	case reflect.Pointer:
		return true
	case reflect.Slice:
		if v.Len() != was.Len() {
			return false
		}
		v, was = v.Slice(0, v.Cap()), was.Slice(0, was.Cap())
		for i := range was.Len() {
			if !untouched(v.Index(i), was.Index(i)) {
				return false
			}
		}
		return true
	case reflect.Struct:
		for i := range v.NumField() {
			if !untouched(v.Field(i), was.Field(i)) {
				return false
			}
		}
		return true
	}
	return v.Equal(was)
}

// same is whether two answers are alike; objects are passed over.
func same(a, b []reflect.Value) bool {
	for i := range a {
		if a[i].Kind() != reflect.Pointer && !reflect.DeepEqual(a[i].Interface(), b[i].Interface()) {
			return false
		}
	}
	return true
}

func plain(l []reflect.Value) []any {
	var out []any
	for _, v := range l {
		out = append(out, v.Interface())
	}
	return out
}

// arguments is arguments for f, always the same ones for one seed.
func arguments(f any, seed uint64) []reflect.Value {
	r := rand.New(rand.NewPCG(seed, 1))
	t := reflect.TypeOf(f)
	var l []reflect.Value
	for i := range t.NumIn() {
		l = append(l, some(r, t.In(i)))
	}
	return l
}

// some is some value of a type: mostly one that may not be, but for graphs, jobs,
// vertices, messages and commitments, without which most calls would get no
// further than them.
func some(r *rand.Rand, t reflect.Type) reflect.Value {
	v := reflect.New(t).Elem()
	if r.IntN(4) > 0 {
		switch t {
		case reflect.TypeFor[api.Graph]():
			return reflect.ValueOf(someGraph(r))
		case reflect.TypeFor[api.Job]():
			return reflect.ValueOf(someJob(r))
		case reflect.TypeFor[api.Vertex]():
			return reflect.ValueOf(someVertex(r))
		case reflect.TypeFor[[]api.Vertex]():
			return reflect.ValueOf(someVertices(r))
		case reflect.TypeFor[api.Msg]():
			return reflect.ValueOf(someMsg(r))
		case reflect.TypeFor[[]api.Msg]():
			if r.IntN(3) == 0 {
				return reflect.ValueOf(someBatch(r))
			}
		case reflect.TypeFor[api.Commit]():
			return reflect.ValueOf(someCommit(r))
		}
	}
	switch t.Kind() {
	case reflect.Int, reflect.Int64:
		v.SetInt(pick[int64](r, 0, 0, 1, 1, 2, 3, 63, 64, 65, -1, -2, 1<<16, 1<<20, 1<<30, 1<<31, 1<<50, 1<<50+1, -1<<50-1, math.MaxInt64, math.MinInt64))
	case reflect.Uint8, reflect.Uint32, reflect.Uint64:
		v.SetUint(pick[uint64](r, 0, 1, 2, 127, 128, 255, 1<<32-1, math.MaxUint64) & (math.MaxUint64 >> (64 - t.Bits())))
	case reflect.Bool:
		v.SetBool(pick(r, false, true))
	case reflect.String:
		v.SetString(pick(r, texts...))
	case reflect.Array:
		for i := range pick(r, 0, 1, t.Len()) {
			v.Index(i).Set(some(r, t.Elem()))
		}
	case reflect.Slice:
		if n := pick(r, -1, 0, 1, 1, 2, 3, 7); n >= 0 {
			v.Set(list(r, t, n))
		}
	case reflect.Struct:
		for i := range t.NumField() {
			v.Field(i).Set(some(r, t.Field(i).Type))
		}
	case reflect.Pointer:
		v.Set(object(r, t))
	}
	return v
}

// someGraph is one that may be, its edges in no order, and some in its spare room.
func someGraph(r *rand.Rand) api.Graph {
	n := pick(r, 1, 2, 3, 4, 64)
	var l []api.Edge
	for i := range pick(r, 0, 1, 3, n, 2*n) {
		l = append(l, api.Edge{From: i * 7 % n, To: (i + i/n) % n, Weight: pick[int64](r, 0, 1, 5, api.MaxWeight)})
	}
	slices.SortFunc(l, func(a, b api.Edge) int { return cmp.Or(cmp.Compare(a.From, b.From), cmp.Compare(a.To, b.To)) })
	l = slices.CompactFunc(l, func(a, b api.Edge) bool { return a.From == b.From && a.To == b.To })
	r.Shuffle(len(l), func(i, j int) { l[i], l[j] = l[j], l[i] })
	return api.Graph{N: n, Edges: l}
}

// someJob is one that may be on a graph that has its source.
func someJob(r *rand.Rand) api.Job {
	return api.Job{Tag: pick(r, "max", "label", "sssp", "bfs", "degree", "rank", "walks"), Source: pick(r, 0, 0, 0, 1, 2, 63), Steps: pick(r, 1, 2, 3, 4, 64)}
}

// someVertex is one that may be on a graph that has it.
func someVertex(r *rand.Rand) api.Vertex {
	value := func() int64 { return pick[int64](r, 0, 1, -1, 7, api.MaxValue, -api.MaxValue) }
	return api.Vertex{ID: pick(r, 0, 0, 0, 1, 2, 63), Value: value(), Active: pick(r, false, true), Has: pick(r, false, true), In: value()}
}

// someVertices is those of a graph, as they may be, and some in their spare room.
func someVertices(r *rand.Rand) []api.Vertex {
	n := pick(r, 1, 2, 3, 4, 64)
	var l []api.Vertex
	for v := range n + r.IntN(3) {
		x := someVertex(r)
		x.ID = v
		l = append(l, x)
	}
	return l[:n]
}

// someMsg is one that may be sent along a graph that has such an edge.
func someMsg(r *rand.Rand) api.Msg {
	return api.Msg{From: pick(r, 0, 0, 0, 1, 2, 63), To: pick(r, 0, 1, 1, 1, 2, 63), Val: pick[int64](r, 0, 1, -1, 7, api.MaxValue, -api.MaxValue)}
}

// someBatch is messages no two of which have the same From and To, in no order,
// and some in their spare room.
func someBatch(r *rand.Rand) []api.Msg {
	var l []api.Msg
	for _, v := range r.Perm(pick(r, 1, 2, 9, 64, 600)) {
		m := someMsg(r)
		m.From, m.To = v%64, v/64
		l = append(l, m)
	}
	return l[:r.IntN(len(l)+1)]
}

// someCommit is one that may be, and some sums in the spare room of its Batches.
func someCommit(r *rand.Rand) api.Commit {
	n := pick(r, 1, 1, 2, 3, 64)
	l := list(r, reflect.TypeFor[[]api.Hash](), n).Interface().([]api.Hash)
	return api.Commit{Worker: pick(r, 0, 1, 2, 63), Step: pick(r, 0, 1, 2, 63), Root: api.Hash{byte(r.IntN(256))}, Batches: l}
}

// list is n values of a slice's type, and some more in its spare room.
func list(r *rand.Rand, t reflect.Type, n int) reflect.Value {
	room := n + r.IntN(3)
	l := reflect.MakeSlice(t, room, room)
	for i := range room {
		l.Index(i).Set(some(r, t.Elem()))
	}
	return l.Slice(0, n)
}

func pick[T any](r *rand.Rand, l ...T) T {
	return l[r.IntN(len(l))]
}

var texts = []string{
	"", "a", "hi", "max", "label", "sssp", "bfs", "degree", "rank", "walks", "lose", "reply", "open", "crash",
	"graph 2\nedge 0 1 5\n", "graph 2\nedge 0 1", "graph 0\n", "graph", "\n", "é",
	"\x00", "\x01", "\x01a", "\xac\x02", "\x53\x00\x01", "\x80", strings.Repeat("\xff", 20),
	"\x00\x00\x00\x00\x00", "\x01\x03\x01\x01\x03", // of vertices
	"\x01\x03\x00\x01\x0a", "\x02\x03\x01\x00\x00\x03\x00\x01\x0a", "\x02\x03\x00\x01\x0a\x03\x01\x00\x00", "\x01\x03\x40\x00\x00", // of messages
	"C\x01\x02" + strings.Repeat("r", 32) + "\x01" + strings.Repeat("b", 32), "C\x3f\x3f" + strings.Repeat("r", 32) + "\x02" + strings.Repeat("b", 63), "C\x40\x02" + strings.Repeat("r", 32) + "\x01" + strings.Repeat("b", 32), // of commitments
	"S\x00\x00", "S\x01\x03\x05\x00\x00\x00\x00\x00\x05\x01\x0a\x01\x00\x00\x05\x02\x01\x00\x00\x00", "S\x02\x01\x05\x00\x03\x00\x00\x00", "S\x41\x00", // of workers
	strings.Repeat("0", 64), strings.Repeat("A", 64), strings.Repeat("z", 65537),
}

// object is one that its package made.
func object(r *rand.Rand, t reflect.Type) reflect.Value {
	switch t {
	case reflect.TypeFor[*wire.Out]():
		return reflect.ValueOf(wire.NewOut())
	case reflect.TypeFor[*wire.In]():
		return reflect.ValueOf(wire.NewIn(pick(r, texts...)))
	}
	return reflect.ValueOf(someWorker(r))
}

// someWorker is one of a job that may be, ahead of its first step, behind some, or
// behind a Load.
func someWorker(r *rand.Rand) *worker.Worker {
	workers := pick(r, 1, 2, 3, 64)
	g, j, w := someGraph(r), someJob(r), r.IntN(workers)
	k, e := worker.New(g, j, workers, w)
	if e != api.OK {
		g = api.Graph{N: 3, Edges: []api.Edge{{From: 0, To: 1, Weight: 5}, {From: 1, To: 2, Weight: 7}}}
		k, _ = worker.New(g, api.Job{Tag: "sssp", Steps: 3}, 2, 0)
	}
	for at := range pick(r, 0, 0, 1, 2, 3) {
		k.Do(at, []api.Msg{someMsg(r), someMsg(r)})
	}
	if r.IntN(4) == 0 {
		k.Load(k.Save())
	}
	return k
}
