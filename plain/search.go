package plain

import (
	"slices"
	"strings"

	"halyard/api"
	"halyard/catalog"
	"halyard/graph"
	"halyard/span"
	"halyard/wants"
)

// search is what a search is asked, and how many candidates it tried. Its choices nest: each is tried within a call of its own, with nodes of its own, so that a step back is a call that comes back with ErrUnsat, and there is nothing to be taken back.
type search struct {
	c         *catalog.Catalog
	m         api.Manifest
	dev       bool
	pins      []api.Pin
	limits    api.Limits
	decisions int
	stood     map[api.Pin][]api.Pin // of a package the last context that stood
}

// pinned is the pins of packages that are there: no other one counts, and there may be far more of them than packages.
func pinned(c *catalog.Catalog, pins []api.Pin) []api.Pin {
	var l []api.Pin
	for _, p := range c.All() {
		if at := (api.Pin{Name: p.Name, Version: p.Version}); slices.Contains(pins, at) {
			l = append(l, at)
		}
	}
	return l
}

// settle settles the node at a place, and within that all behind it.
func (s *search) settle(nodes []api.Node, place int) ([]api.Node, api.Errno) {
	if place == len(nodes) {
		return nodes, api.OK
	}
	return s.try(nodes, place, s.wantsOf(nodes, place), nodes[place].Context)
}

// wantsOf is the wants of the node at a place. Its package is there, since its context stood.
func (s *search) wantsOf(nodes []api.Node, place int) []api.Want {
	if place == 0 {
		return wants.OfRoot(s.m, s.dev)
	}
	p, _ := s.c.Get(nodes[place].Name, nodes[place].Version)
	return wants.Of(p, s.m)
}

// try tries each candidate of the first want that is left, and within that those of the others; env is what the environment tells so far.
func (s *search) try(nodes []api.Node, place int, left []api.Want, env []api.Pin) ([]api.Node, api.Errno) {
	if len(left) == 0 {
		return s.bind(nodes, place, env)
	}
	for _, candidate := range s.candidates(nodes[place].Context, left[0]) {
		if s.decisions == s.limits.Decisions {
			return nil, api.ErrBudget
		}
		s.decisions++
		found, e := s.try(nodes, place, left[1:], joined(env, candidate))
		if e != api.ErrUnsat {
			return found, e
		}
	}
	return nil, api.ErrUnsat
}

// candidates is what may be tried for a want of a node in a context, in its order: a pin each, or none at all, by which the want is dropped.
func (s *search) candidates(context []api.Pin, w api.Want) [][]api.Pin {
	var l [][]api.Pin
	for _, p := range context {
		if p.Name == w.Name && span.In(w.Range, p.Version) {
			return [][]api.Pin{{p}}
		}
		if p.Name == w.Name {
			return nil
		}
	}
	for _, v := range s.c.Candidates(w.Name, w.Range, s.pins) {
		l = append(l, []api.Pin{{Name: w.Name, Version: v}})
	}
	if w.Kind == api.WantMay {
		l = append(l, nil)
	}
	return l
}

// joined is an environment with what was tried, by name; what it tells of already is told once.
func joined(env, tried []api.Pin) []api.Pin {
	for _, p := range tried {
		at, there := slices.BinarySearchFunc(env, p.Name, func(q api.Pin, name string) int { return strings.Compare(q.Name, name) })
		if !there {
			env = slices.Insert(slices.Clone(env), at, p)
		}
	}
	return env
}

// bind gives the node at a place its edges, in nodes that are a copy, and settles the one behind it.
func (s *search) bind(nodes []api.Node, place int, env []api.Pin) ([]api.Node, api.Errno) {
	led, stand := s.led(env)
	if !stand {
		return nil, api.ErrUnsat
	}
	nodes = slices.Clone(nodes)
	var edges []api.Edge
	for _, n := range led {
		to := graph.Find(api.Graph{Nodes: nodes}, n.Name, n.Version, n.Context)
		if to < 0 && len(nodes) == s.limits.Nodes {
			return nil, api.ErrTooMany
		}
		if to < 0 {
			to, nodes = len(nodes), append(nodes, n)
		}
		edges = append(edges, api.Edge{Label: n.Name, To: to})
	}
	nodes[place].Edges = edges
	return s.settle(nodes, place+1)
}

// led is all packages of an environment, each in its context; false, if one of these does not stand.
func (s *search) led(env []api.Pin) ([]api.Node, bool) {
	var l []api.Node
	for _, p := range env {
		context, stands := s.context(env, p)
		if !stands {
			return nil, false
		}
		l = append(l, api.Node{Name: p.Name, Version: p.Version, Context: context})
	}
	return l, true
}

// context is what wants.Context tells. A context that stands in an environment is the same in each that tells the same of its names, so it is not asked for there again: choices that nest bind the same nodes time and again.
func (s *search) context(env []api.Pin, p api.Pin) ([]api.Pin, bool) {
	if l, some := s.stood[p]; some && isPart(l, env) {
		return l, true
	}
	l, stands := wants.Context(s.c, s.m, env, p)
	if stands {
		s.stood[p] = l
	}
	return l, stands
}

// isPart tells whether an environment has all pins of a context; both rise by name.
func isPart(context, env []api.Pin) bool {
	if len(context) == 0 {
		return true
	}
	at := slices.Index(env, context[0])
	return at >= 0 && isPart(context[1:], env[at+1:])
}
