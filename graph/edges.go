package graph

import (
	"cmp"
	"slices"

	"modillion/api"
)

// formed is whether a graph may be, but for edges that are there twice.
func formed(g api.Graph) bool {
	if g.N < 1 || g.N > api.MaxVertices || len(g.Edges) > api.MaxEdges {
		return false
	}
	return !slices.ContainsFunc(g.Edges, func(x api.Edge) bool {
		return x.From < 0 || x.From >= g.N || x.To < 0 || x.To >= g.N || x.Weight < 0 || x.Weight > api.MaxWeight
	})
}

// twice is whether two edges of a formed graph have the same From and To. Layers
// above ask it at every step of every vertex, so nothing is sorted for it.
func twice(l []api.Edge) bool {
	var seen [api.MaxVertices][api.MaxVertices]bool
	for _, x := range l {
		if seen[x.From][x.To] {
			return true
		}
		seen[x.From][x.To] = true
	}
	return false
}

// picked is those edges that are wanted, in order, as a list of its own.
func picked(l []api.Edge, wanted func(api.Edge) bool) []api.Edge {
	var some []api.Edge
	for _, x := range l {
		if wanted(x) {
			some = append(some, x)
		}
	}
	slices.SortFunc(some, func(a, b api.Edge) int {
		return cmp.Or(cmp.Compare(a.From, b.From), cmp.Compare(a.To, b.To))
	})
	return some
}
