package graph

import (
	"slices"

	"halyard/api"
	"halyard/catalog"
	"halyard/lock"
	"halyard/manifest"
	"halyard/span"
	"halyard/wants"
)

// Check tells whether a graph is a solution.
func Check(g api.Graph, c *catalog.Catalog, m api.Manifest, dev bool) api.Errno {
	if c == nil || !manifest.May(m) {
		return api.ErrArg
	}
	// The form is asked first: a graph that has it is small, and its edges lead to nodes.
	if !lock.May(g) || !labelled(g) || anyTwice(g.Nodes) || len(Reach(g)) < len(g.Nodes) {
		return api.ErrGraph
	}
	s := solution{nodes: g.Nodes, c: c, m: m, dev: dev}
	for i := range g.Nodes {
		if !s.fits(i) {
			return api.ErrGraph
		}
	}
	return api.OK
}

// labelled tells whether each edge is labelled by the name of the node that it leads to.
func labelled(g api.Graph) bool {
	for _, n := range g.Nodes {
		for _, e := range n.Edges {
			if g.Nodes[e.To].Name != e.Label {
				return false
			}
		}
	}
	return true
}

// anyTwice tells whether a package stands there in one context twice.
func anyTwice(l []api.Node) bool {
	for i, n := range l {
		if slices.ContainsFunc(l[:i], func(ahead api.Node) bool { return alike(ahead, n) }) {
			return true
		}
	}
	return false
}

// solution is a graph that is asked whether it is one, for a catalog, a manifest and dev.
type solution struct {
	nodes []api.Node
	c     *catalog.Catalog
	m     api.Manifest
	dev   bool
}

// fits tells whether the node at a place is there and has what it wants, in the versions and contexts that it must have.
func (s solution) fits(place int) bool {
	own, there := s.wants(place)
	n, led := s.nodes[place], s.led(place)
	return there && allWanted(n, own) && hasOwn(own, led) && hasContext(n, led) && s.contextsHold(place, led)
}

// wants is the own wants of the node at a place; false, if its package is not in the catalog.
func (s solution) wants(place int) ([]api.Want, bool) {
	if place == 0 {
		return wants.OfRoot(s.m, s.dev), true
	}
	n := s.nodes[place]
	p, there := s.c.Get(n.Name, n.Version)
	return wants.Of(p, s.m), there
}

// led is of each edge of the node at a place its label, with the version of the node that it leads to.
func (s solution) led(place int) []api.Pin {
	var l []api.Pin
	for _, e := range s.nodes[place].Edges {
		l = append(l, api.Pin{Name: e.Label, Version: s.nodes[e.To].Version})
	}
	return l
}

// allWanted tells whether each edge of a node is of an own want, or of its context.
func allWanted(n api.Node, own []api.Want) bool {
	times := map[string]int{}
	for _, w := range own {
		times[w.Name]++
	}
	for _, p := range n.Context {
		times[p.Name]++
	}
	return !slices.ContainsFunc(n.Edges, func(e api.Edge) bool { return times[e.Label] == 0 })
}

// hasOwn tells whether there is an edge for each want that must have one, and each that is there has a version in its range.
func hasOwn(own []api.Want, led []api.Pin) bool {
	told := map[string]api.Version{}
	for _, p := range led {
		told[p.Name] = p.Version
	}
	for _, w := range own {
		v, some := told[w.Name]
		if !some && w.Kind == api.WantMust || some && !span.In(w.Range, v) {
			return false
		}
	}
	return true
}

// hasContext tells whether a node has an edge for each pin of its context, to a node of that version.
func hasContext(n api.Node, led []api.Pin) bool {
	return !slices.ContainsFunc(n.Context, func(p api.Pin) bool { return !slices.Contains(led, p) })
}

// contextsHold tells whether each node that the one at a place leads to has the context that it must have in that one's environment.
func (s solution) contextsHold(place int, led []api.Pin) bool {
	n := s.nodes[place]
	env := slices.Concat(n.Context, led)
	for i, e := range n.Edges {
		context, stands := wants.Context(s.c, s.m, env, led[i])
		if !stands || !slices.Equal(context, s.nodes[e.To].Context) {
			return false
		}
	}
	return true
}
