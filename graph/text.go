package graph

import (
	"strconv"
	"strings"

	"modillion/api"
)

// The words that lines begin with.
const (
	graphWord = "graph"
	edgeWord  = "edge"
)

// mostDigits is how long a number of a text may be: each of that length fits an
// int, so that one which is too great for a graph is Check's to tell.
const mostDigits = 9

// writeLine writes a word and numbers as a line.
func writeLine(b *strings.Builder, word string, numbers ...int64) {
	b.WriteString(word)
	for _, n := range numbers {
		b.WriteByte(' ')
		b.WriteString(strconv.FormatInt(n, 10))
	}
	b.WriteByte('\n')
}

// readLines is the graph that a text's lines tell, in their order, whether it
// may be or not; else the number of the first wrong line. A text without a line
// lacks its first one.
func readLines(s string) (api.Graph, int) {
	var g api.Graph
	for at := 1; at == 1 || s != ""; at++ {
		line, rest, ended := strings.Cut(s, "\n")
		read := readEdge
		if at == 1 {
			read = readVertices
		}
		if !ended || !read(&g, line) {
			return api.Graph{}, at
		}
		s = rest
	}
	return g, 0
}

// readVertices reads the line that tells how many vertices there are.
func readVertices(g *api.Graph, line string) bool {
	l, ok := readLine(line, graphWord, 1)
	if ok {
		g.N = l[0]
	}
	return ok
}

// readEdge reads the line of an edge.
func readEdge(g *api.Graph, line string) bool {
	l, ok := readLine(line, edgeWord, 3)
	if ok {
		g.Edges = append(g.Edges, api.Edge{From: l[0], To: l[1], Weight: int64(l[2])})
	}
	return ok
}

// readLine is the numbers of a line of a word and so many of them.
func readLine(line, word string, count int) ([]int, bool) {
	parts := strings.SplitN(line, " ", 1+count)
	if len(parts) != 1+count || parts[0] != word {
		return nil, false
	}
	var numbers []int
	for _, part := range parts[1:] {
		n, ok := readNumber(part)
		if !ok {
			return nil, false
		}
		numbers = append(numbers, n)
	}
	return numbers, true
}

// readNumber is the number of its decimal digits. The library's own reading
// would take signs and noughts ahead.
func readNumber(s string) (int, bool) {
	if s == "" || len(s) > mostDigits || s[0] == '0' && s != "0" {
		return 0, false
	}
	n := 0
	for i := range len(s) {
		if s[i] < '0' || s[i] > '9' {
			return 0, false
		}
		n = 10*n + int(s[i]-'0')
	}
	return n, true
}
