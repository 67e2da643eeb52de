package prog

import (
	"modillion/api"
	"modillion/graph"
)

// The programs' names.
const (
	tagMax    = "max"
	tagLabel  = "label"
	tagSssp   = "sssp"
	tagBfs    = "bfs"
	tagDegree = "degree"
	tagRank   = "rank"
	tagWalks  = "walks"
)

// What rank goes by: where it begins, what each vertex has whatever comes, and
// how many of a hundred parts of what came are left.
const (
	rankFirst = 65536
	rankOwn   = 9830
	rankLeft  = 85
)

// notReached is how far a vertex is to which no way is known.
const notReached = -1

// firstValue is a vertex's value at first, of a known program.
func firstValue(j api.Job, v int) int64 {
	switch j.Tag {
	case tagMax:
		// The lowest bits are what is left, even where the product wraps round.
		return int64((37*v + 11) & 63)
	case tagLabel:
		return int64(v)
	case tagSssp, tagBfs:
		if v != j.Source {
			return notReached
		}
	case tagRank:
		return rankFirst
	case tagWalks:
		return 1
	}
	return 0
}

// folded is two values as one, of a known program.
func folded(tag string, a, b int64) int64 {
	switch tag {
	case tagMax:
		return max(a, b)
	case tagLabel, tagSssp, tagBfs:
		return min(a, b)
	}
	return a + b
}

// turn is a step of a vertex that has something to do: what its program is told
// of it, and what the program makes of its value and of whether it is active.
type turn struct {
	first, last bool // which of the job's steps it is
	source      bool // whether the vertex is the job's
	came        bool
	in          int64 // 0, if nothing came
	neighbours  int64
	value       int64
	active      bool
	send        func(along func(weight int64) int64)
}

// done is a vertex behind a step in which it has something to do, and what it
// sends; whether these are too great is left to ask.
func done(g api.Graph, j api.Job, step int, x api.Vertex) (api.Vertex, []api.Msg) {
	var sent []api.Msg
	out := graph.Out(g, x.ID)
	t := turn{
		first:      step == 0,
		last:       step == j.Steps-1,
		source:     x.ID == j.Source,
		came:       x.Has,
		neighbours: int64(len(out)),
		value:      x.Value,
		send: func(along func(weight int64) int64) {
			for _, e := range out {
				sent = append(sent, api.Msg{From: e.From, To: e.To, Val: along(e.Weight)})
			}
		},
	}
	if x.Has {
		t.in = x.In
	}
	t.run(j.Tag)
	return api.Vertex{ID: x.ID, Value: t.value, Active: t.active}, sent
}

// run does what the program of that name tells to do. Programs that are alike
// differ by what counts as better, or as an edge's length, alone.
func (t *turn) run(tag string) {
	better := t.in > t.value
	length := func(weight int64) int64 { return weight }
	switch tag {
	case tagLabel:
		better = t.in < t.value
		fallthrough
	case tagMax:
		t.best(better)
	case tagBfs:
		length = same(1)
		fallthrough
	case tagSssp:
		t.nearest(length)
	case tagDegree:
		t.degree()
	case tagRank:
		t.rank()
	case tagWalks:
		t.walks()
	}
}

// best takes what came, if it is better, and passes on what is new to others.
func (t *turn) best(better bool) {
	if !t.first {
		if !t.came || !better {
			return
		}
		t.value = t.in
	}
	t.send(same(t.value))
}

// nearest takes what came, if it is a shorter way, and passes on how far it is
// from here.
func (t *turn) nearest(length func(weight int64) int64) {
	switch {
	case t.first:
		if t.source {
			t.send(length)
		}
	case t.came && (t.value < 0 || t.in < t.value):
		t.value = t.in
		t.send(func(weight int64) int64 { return t.in + length(weight) })
	}
}

// degree tells each neighbour that there is an edge, and takes how many told so.
func (t *turn) degree() {
	switch {
	case t.first:
		t.send(same(1))
	case t.came:
		t.value = t.in
	}
}

// rank goes on by itself till the last step, and parts its value among the
// neighbours.
func (t *turn) rank() {
	if !t.first {
		t.value = rankOwn + roundedDown(t.in*rankLeft, 100)
	}
	t.active = !t.last
	if t.active && t.neighbours > 0 {
		t.send(same(roundedDown(t.value, t.neighbours)))
	}
}

// walks adds what came, and passes it on.
func (t *turn) walks() {
	switch {
	case t.first:
		t.send(same(1))
	case t.came:
		t.value += t.in
		t.send(same(t.in))
	}
}

// same is a value that goes along each edge, whatever its weight.
func same(n int64) func(weight int64) int64 {
	return func(int64) int64 { return n }
}

// roundedDown is a by b, of a b above 0. The language's own division would round
// what is below 0 up.
func roundedDown(a, b int64) int64 {
	n := a / b
	if a%b < 0 {
		n--
	}
	return n
}
