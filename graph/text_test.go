package graph_test

import (
	"fmt"
	"slices"
	"strings"
	"testing"

	"modillion/api"
	"modillion/graph"
)

// textOf is a graph's text, its lines in the order of its edges.
func textOf(g api.Graph) string {
	s := fmt.Sprintf("graph %d\n", g.N)
	for _, x := range g.Edges {
		s += fmt.Sprintf("edge %d %d %d\n", x.From, x.To, x.Weight)
	}
	return s
}

// P5.2, Show: the document's own example, and one with all that a line may have.
func TestShowExamples(t *testing.T) {
	for _, x := range []struct {
		g api.Graph
		s string
	}{
		{of(1), "graph 1\n"},
		{of(64), "graph 64\n"},
		{of(2, edge(0, 1, 5)), "graph 2\nedge 0 1 5\n"},
		{of(64, edge(63, 10, 1<<20), edge(9, 0, 0), edge(10, 63, 100), edge(9, 63, 7), edge(9, 10, 20)),
			"graph 64\nedge 9 0 0\nedge 9 10 20\nedge 9 63 7\nedge 10 63 100\nedge 63 10 1048576\n"},
	} {
		if s, e := graph.Show(x.g); s != x.s || e != api.OK {
			t.Errorf("%v: %q, %d", x.g, s, e)
		}
	}
}

// P5.2, Show: a line for each edge, in order; P1: Check's error, and no text.
func TestShow(t *testing.T) {
	for _, x := range append(may(), mayNot()...) {
		want := ""
		if x.e == api.OK {
			want = textOf(api.Graph{N: x.g.N, Edges: ordered(x.g, all)})
		}
		if s, e := graph.Show(x.g); s != want || e != x.e {
			t.Errorf("%s: %q, %d", x.why, s, e)
		}
	}
}

// P5.2, Read, and P5.3: a graph's text, its lines in whatever order, is read as
// the graph in order; and so it is shown.
func TestReadAgain(t *testing.T) {
	l := may()
	for seed := range uint64(50) {
		l = append(l, told{"some", some(seed), api.OK})
	}
	for _, x := range l {
		want := ordered(x.g, all)
		shown, _ := graph.Show(x.g)
		turned := slices.Clone(want)
		slices.Reverse(turned)
		for _, s := range []string{shown, textOf(x.g), textOf(of(x.g.N, turned...)), textOf(of(x.g.N, mixed(4, want)...))} {
			g, line, e := graph.Read(s)
			if e != api.OK || line != 0 || g.N != x.g.N || !slices.Equal(g.Edges, want) {
				t.Errorf("%s: %q: %v, %d, %d", x.why, s, g, line, e)
			}
			if again, e := graph.Show(g); again != shown || e != api.OK {
				t.Errorf("%s: %q became %q, %d", x.why, shown, again, e)
			}
		}
	}
}

// lineIs fails if a text isn't read as one whose line of that number is wrong.
func lineIs(t *testing.T, s string, want int) {
	t.Helper()
	if g, line, e := graph.Read(s); e != api.ErrGraphLine || line != want || g.N != 0 || len(g.Edges) != 0 {
		t.Errorf("%.60q: %v, line %d, %d; not line %d", s, g, line, e, want)
	}
}

// wrongNumbers is what is no number of a text.
func wrongNumbers() []string {
	return []string{
		"", "00", "01", "007", "0000000001", "-1", "-0", "+1", "+0", "1.", "1.5", "0x1", "1_0", "1e1", "a", "1a", "a1",
		"1234567890", "1000000000", "0123456789", "99999999999999999999999", "1\t", "\t1", "1\r", "1\x00", "1 ", " 1",
		"١", "１", "1,", "'1'", "/", ":", "0/", "0:",
	}
}

// P5.2, Read: lines that are none, at the first line and at later ones, whatever
// stands behind them.
func TestReadWrongLine(t *testing.T) {
	first := []string{
		"", " ", "graph", "graph ", " graph 1", "graph  1", "graph 1 ", "graph\t1", "graph1", "Graph 1", "GRAPH 1", "graphs 1", "grap 1",
		"graph 1 2", "graph 1 1 1 1", "edge 0 0 0", "edge 0 0", "1", "graph 1\r", "\ufeffgraph 1", "graph one", "# graph 1", "graph graph 1",
	}
	later := []string{
		"", " ", "graph 1", "graph 2", "edge", "edge ", "edge 0", "edge 0 0", "edge 0 0 ", "edge 0 0 0 ", "edge 0 0 0 0", " edge 0 0 0",
		"edge  0 0 0", "edge 0  0 0", "edge 0 0  0", "edge\t0 0 0", "edge 0\t0 0", "Edge 0 0 0", "EDGE 0 0 0", "edges 0 0 0", "edg 0 0 0", "edge0 0 0",
		"0 0 0", "vertex 0 0 0", "edge 0 0 0\r", "edge 0,0,0", "# edge", "edge edge 0 0 0",
	}
	for _, n := range wrongNumbers() {
		first = append(first, "graph "+n)
		later = append(later, "edge "+n+" 0 0", "edge 0 "+n+" 0", "edge 0 0 "+n)
	}
	for _, line := range first {
		for _, behind := range []string{"", "\n", "\ngraph 1\n", "\nedge 0 0 0\n", "\nedge\n", "\n\n"} {
			lineIs(t, line+behind, 1)
		}
	}
	for _, line := range later {
		for _, behind := range []string{"\n", "\nedge 0 0 0\n", "\nedge\n", "\n\n", "\ngraph 1\n"} {
			lineIs(t, "graph 1\n"+line+behind, 2)
			lineIs(t, "graph 64\nedge 5 6 7\nedge 6 5 7\n"+line+behind, 4)
		}
	}
}

// P5.2, Read: each line has a line feed behind; without a line the first is wrong.
func TestReadEnds(t *testing.T) {
	lineIs(t, "", 1)
	lineIs(t, "graph 1", 1)
	lineIs(t, "\n", 1)
	lineIs(t, "graph 1\n\n", 2)
	lineIs(t, "graph 1\nedge 0 0 0\n\n", 3)
	lineIs(t, "graph 1\n\nedge 0 0 0\n", 2)
	lineIs(t, "\ngraph 1\n", 1)
	lineIs(t, "graph 1\nedge 0 0 0", 2)
	lineIs(t, "graph 2\nedge 0 0 0\nedge 0 1 0", 3)
	s, _ := graph.Show(of(3, edge(0, 1, 20), edge(2, 1, 30), edge(1, 0, 40)))
	for cut := range len(s) {
		if cut > 0 && s[cut-1] == '\n' {
			if _, line, e := graph.Read(s[:cut]); line != 0 || e != api.OK {
				t.Errorf("whole lines %q: line %d, %d", s[:cut], line, e)
			}
			continue
		}
		lineIs(t, s[:cut], 1+strings.Count(s[:cut], "\n"))
	}
}

// P5.2, Read: a wrong line is told ahead of a graph that may not be; the first
// one of several is told, and however many lines there are.
func TestReadFirstWrong(t *testing.T) {
	for _, ahead := range []string{"graph 0\n", "graph 65\n", "graph 1\nedge 1 1 1\n", "graph 1\nedge 0 0 0\nedge 0 0 0\n"} {
		lineIs(t, ahead+"edge\n", 1+strings.Count(ahead, "\n"))
		lineIs(t, ahead+"edge 1 1 1\n\nedge\nedge 0 0 -1\n", 2+strings.Count(ahead, "\n"))
	}
	long := "graph 64\n" + strings.Repeat("edge 0 0 0\n", 5000)
	lineIs(t, long+"edge 0 0 0", 5002)
	lineIs(t, long+"graph 64\n", 5002)
	lineIs(t, strings.Repeat(" ", 1<<20), 1)
	lineIs(t, "graph 1\nedge"+strings.Repeat(" 0", 1<<20)+"\n", 2)
}

// P5.2, Read, and P1: right lines of a graph that may not be: Check's error, and
// no line.
func TestReadWrongGraph(t *testing.T) {
	for s, want := range map[string]api.Errno{
		"graph 0\n":                                             api.ErrGraphForm,
		"graph 65\n":                                            api.ErrGraphForm,
		"graph 999999999\n":                                     api.ErrGraphForm,
		"graph 1\nedge 0 1 0\n":                                 api.ErrGraphForm,
		"graph 1\nedge 1 0 0\n":                                 api.ErrGraphForm,
		"graph 0\nedge 0 0 0\n":                                 api.ErrGraphForm,
		"graph 64\nedge 64 0 0\n":                               api.ErrGraphForm,
		"graph 2\nedge 0 1 1048577\n":                           api.ErrGraphForm,
		"graph 2\nedge 0 1 999999999\n":                         api.ErrGraphForm,
		"graph 2\nedge 999999999 999999999 999999999\n":         api.ErrGraphForm,
		"graph 2\nedge 0 1 1\nedge 0 1 1\n":                     api.ErrGraphTwice,
		"graph 2\nedge 0 1 1\nedge 1 0 1\nedge 0 1 2\n":         api.ErrGraphTwice,
		"graph 2\nedge 0 1 1\nedge 0 1 2\nedge 2 0 0\n":         api.ErrGraphForm,
		textOf(of(64, many(64, 513)...)):                        api.ErrGraphForm,
		"graph 64\n" + strings.Repeat("edge 0 0 0\n", 512):      api.ErrGraphTwice,
		"graph 64\n" + strings.Repeat("edge 0 0 0\n", 5000):     api.ErrGraphForm,
		textOf(of(64, append(many(64, 511), edge(7, 0, 5))...)): api.ErrGraphTwice,
	} {
		if g, line, e := graph.Read(s); e != want || line != 0 || g.N != 0 || len(g.Edges) != 0 {
			t.Errorf("%.60q: %v, line %d, %d", s, g, line, e)
		}
	}
}

// P5.2, Read: numbers of up to nine digits, by all digits.
func TestReadNumbers(t *testing.T) {
	g, line, e := graph.Read("graph 61\nedge 23 45 1046789\nedge 60 0 0\nedge 10 20 100000\n")
	want := []api.Edge{edge(10, 20, 100000), edge(23, 45, 1046789), edge(60, 0, 0)}
	if e != api.OK || line != 0 || g.N != 61 || !slices.Equal(g.Edges, want) {
		t.Errorf("%v, line %d, %d", g, line, e)
	}
	for n := 1; n <= 64; n++ {
		if g, _, e := graph.Read(fmt.Sprintf("graph %d\n", n)); g.N != n || e != api.OK {
			t.Errorf("%d: %v, %d", n, g, e)
		}
	}
}

// P5.3: whatever text is read stands, line by line, in the graph that it is read
// as: shown again it has the same lines.
func TestReadIsShown(t *testing.T) {
	words := []string{"graph 1\n", "graph 2\n", "edge 0 0 0\n", "edge 0 1 7\n", "edge 1 0 10\n", "edge 1 1 1048576\n", "edge 0 1 07\n", "edge 0 1\n", "\n", "edge 0 1 7"}
	right := 0
	for i := range 10000 {
		s := words[i%10] + words[i/10%10] + words[i/100%10] + words[i/1000]
		g, _, e := graph.Read(s)
		if e != api.OK {
			continue
		}
		right++
		shown, e := graph.Show(g)
		l, m := strings.SplitAfter(s, "\n"), strings.SplitAfter(shown, "\n")
		slices.Sort(l[1:])
		slices.Sort(m[1:])
		if e != api.OK || !slices.Equal(l, m) {
			t.Errorf("%q is shown as %q, %d", s, shown, e)
		}
	}
	if right < 20 {
		t.Errorf("only %d texts were read", right)
	}
}
