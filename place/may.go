package place

import (
	"slices"

	"halyard/api"
	"halyard/pack"
)

// canBePlaced tells whether a graph of those nodes, with those packages, can be placed.
func canBePlaced(nodes []api.Node, packs []api.Package) bool {
	if len(nodes) == 0 || len(nodes) > api.MaxNodes || len(packs) != len(nodes) || !isRoot(nodes[0], packs[0]) {
		return false
	}
	for i := range len(nodes) {
		if i > 0 && !isOfPack(nodes[i], packs[i]) {
			return false
		}
		if !mayLead(nodes, nodes[i]) {
			return false
		}
	}
	return true
}

func isRoot(n api.Node, p api.Package) bool {
	return n.Name == "" && n.Version == api.Version{} && len(n.Context) == 0 && pack.Same(p, api.Package{})
}

func isOfPack(n api.Node, p api.Package) bool {
	return p.Name == n.Name && p.Version == n.Version && pack.May(p)
}

// mayLead tells whether a node's context and edges are such as may be.
func mayLead(nodes []api.Node, n api.Node) bool {
	return rises(n.Context, nameOf) && rises(n.Edges, labelOf) &&
		!slices.ContainsFunc(n.Edges, func(e api.Edge) bool { return !leads(nodes, e) }) &&
		!slices.ContainsFunc(n.Context, func(q api.Pin) bool { return !hasBeside(nodes, n, q) })
}

// rises tells whether the names of a list rise, byte by byte, each once.
func rises[T any](l []T, name func(T) string) bool {
	for i := range len(l) {
		if i > 0 && name(l[i-1]) >= name(l[i]) {
			return false
		}
	}
	return true
}

func nameOf(q api.Pin) string { return q.Name }

func labelOf(e api.Edge) string { return e.Label }

// leads tells whether an edge leads to a node of the name by which it is labelled, other than the root.
func leads(nodes []api.Node, e api.Edge) bool {
	return e.To > 0 && e.To < len(nodes) && nodes[e.To].Name == e.Label
}

// hasBeside tells whether a node has an edge for a pin of its context, to a node of that version. All edges lead to nodes.
func hasBeside(nodes []api.Node, n api.Node, q api.Pin) bool {
	return slices.ContainsFunc(n.Edges, func(e api.Edge) bool {
		return e.Label == q.Name && nodes[e.To].Version == q.Version
	})
}
