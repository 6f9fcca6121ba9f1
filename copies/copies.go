// Package copies is what projects are made of, in memory of its own at every depth: whoever writes into the one changes nothing in the other.
package copies

import (
	"slices"
	"strings"

	"halyard/api"
	"halyard/deps"
)

// State is a copy of a state, be it one that may be or not.
func State(s api.State) api.State {
	return api.State{Manifest: Manifest(s.Manifest), Graph: Graph(s.Graph), Tree: Tree(s.Tree), Pruned: s.Pruned}
}

// Manifest is a copy of a manifest.
func Manifest(m api.Manifest) api.Manifest {
	return api.Manifest{Deps: deps.Copy(m.Deps), Dev: deps.Copy(m.Dev), Optional: deps.Copy(m.Optional), Overrides: deps.Copy(m.Overrides)}
}

// Graph is a copy of a graph.
func Graph(g api.Graph) api.Graph {
	var out api.Graph
	for _, n := range g.Nodes {
		out.Nodes = append(out.Nodes, node(n))
	}
	return out
}

func node(n api.Node) api.Node {
	out := api.Node{Name: strings.Clone(n.Name), Version: n.Version, Context: slices.Clone(n.Context), Edges: slices.Clone(n.Edges)}
	for i, p := range out.Context {
		out.Context[i].Name = strings.Clone(p.Name)
	}
	for i, e := range out.Edges {
		out.Edges[i].Label = strings.Clone(e.Label)
	}
	return out
}

// Tree is a copy of a tree, its directories in their order.
func Tree(t api.Tree) api.Tree {
	var out api.Tree
	for _, d := range t.Dirs {
		out.Dirs = append(out.Dirs, api.Dir{Path: Path(d.Path), Pack: deps.CopyPackage(d.Pack), Node: d.Node})
	}
	return out
}

// Path is a copy of the names on the way to a directory.
func Path(names []string) []string {
	out := slices.Clone(names)
	for i, name := range out {
		out[i] = strings.Clone(name)
	}
	return out
}
