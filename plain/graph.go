package plain

import (
	"slices"

	"halyard/api"
	"halyard/catalog"
)

// packsOf is of each node of a graph its package, of the root the zero one; false, if one is not there, or there are too few nodes or too many.
func packsOf(g api.Graph, c *catalog.Catalog) ([]api.Package, bool) {
	if len(g.Nodes) == 0 || len(g.Nodes) > api.MaxNodes {
		return nil, false
	}
	l := []api.Package{{}}
	for _, n := range g.Nodes[1:] {
		p, there := c.Get(n.Name, n.Version)
		if !there {
			return nil, false
		}
		l = append(l, p)
	}
	return l, true
}

// canBePlaced tells whether a graph can be placed whose nodes have their packages.
func canBePlaced(g api.Graph) bool {
	root := g.Nodes[0]
	if root.Name != "" || root.Version != (api.Version{}) || len(root.Context) > 0 {
		return false
	}
	for _, n := range g.Nodes {
		// Edges come first: such as may be are no more than nodes, and so are the pins that are looked for among them.
		if !mayLead(g, n.Edges) || !mayStand(g, n) {
			return false
		}
	}
	return true
}

// mayLead tells whether the labels of edges rise, and each leads to a node of that name, other than the root.
func mayLead(g api.Graph, l []api.Edge) bool {
	last := ""
	for _, e := range l {
		if e.Label <= last || e.To <= 0 || e.To >= len(g.Nodes) || g.Nodes[e.To].Name != e.Label {
			return false
		}
		last = e.Label
	}
	return true
}

// mayStand tells whether the names of a node's context rise, and each has an edge to a node of its version.
func mayStand(g api.Graph, n api.Node) bool {
	last := ""
	for _, q := range n.Context {
		leads := func(e api.Edge) bool { return e.Label == q.Name && g.Nodes[e.To].Version == q.Version }
		if q.Name <= last || !slices.ContainsFunc(n.Edges, leads) {
			return false
		}
		last = q.Name
	}
	return true
}
