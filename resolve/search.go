package resolve

import (
	"slices"
	"strings"

	"halyard/api"
	"halyard/catalog"
	"halyard/graph"
	"halyard/span"
	"halyard/wants"
)

// search is a search that is under way. All nodes ahead of the one that is settled are bound.
type search struct {
	c         *catalog.Catalog
	m         api.Manifest
	dev       bool
	pins      []api.Pin
	limits    api.Limits
	nodes     []api.Node
	own       [][]api.Want // of each node up to the one that is settled
	node      int          // the place of the one that is settled
	want      int          // the place of its want that is next
	stack     []choice     // one for each want that was gone through, of all nodes
	decisions int
	known     map[api.Pin][]api.Pin // of a package the last context that stood
}

// choice is a want that is gone through, and what stood there ahead of it.
type choice struct {
	node  int
	want  int
	made  int // how many nodes there were
	tried candidate
	left  []candidate // those that were not tried yet
}

// candidate is a version that may be tried for a want; or none, by which it is dropped.
type candidate struct {
	version api.Version
	none    bool
}

// run goes on till all nodes that were made are bound, or there is no way on.
func (s *search) run() api.Errno {
	var led []api.Node
	var stand bool
	s.settle(0)
try:
	if s.want == len(s.own[s.node]) {
		goto bind
	}
	s.stack = append(s.stack, choice{node: s.node, want: s.want, made: len(s.nodes), left: s.candidates()})
next:
	if s.isSpent() {
		s.stack = s.stack[:len(s.stack)-1]
		goto back
	}
	if s.decisions == s.limits.Decisions {
		return api.ErrBudget
	}
	s.take()
	goto try
bind:
	if led, stand = s.led(); !stand {
		goto back
	}
	if !s.lead(led) {
		return api.ErrTooMany
	}
	if s.node+1 == len(s.nodes) {
		return api.OK
	}
	s.settle(s.node + 1)
	goto try
back:
	if len(s.stack) == 0 {
		return api.ErrUnsat
	}
	s.restore()
	goto next
}

// settle begins with a node: none of its wants is gone through.
func (s *search) settle(place int) {
	s.node, s.want = place, 0
	s.own = append(s.own[:place], s.wanted(place))
}

// wanted is the own wants of the node at a place; its package is there, else its context would not have stood.
func (s *search) wanted(place int) []api.Want {
	if place == 0 {
		return wants.OfRoot(s.m, s.dev)
	}
	p, _ := s.c.Get(s.nodes[place].Name, s.nodes[place].Version)
	return wants.Of(p, s.m)
}

// candidates is what may be tried for the want that is next, in its order.
func (s *search) candidates() []candidate {
	n, w := s.nodes[s.node], s.own[s.node][s.want]
	if at := slices.IndexFunc(n.Context, func(p api.Pin) bool { return p.Name == w.Name }); at >= 0 {
		if v := n.Context[at].Version; span.In(w.Range, v) {
			return []candidate{{version: v}}
		}
		return nil
	}
	var l []candidate
	for _, v := range s.c.Candidates(w.Name, w.Range, s.pins) {
		l = append(l, candidate{version: v})
	}
	if w.Kind == api.WantMay {
		l = append(l, candidate{none: true})
	}
	return l
}

// isSpent tells whether the last choice has nothing left to try.
func (s *search) isSpent() bool { return len(s.stack[len(s.stack)-1].left) == 0 }

// take tries the next candidate of the last choice: one decision, also if it is tried once more.
func (s *search) take() {
	last := &s.stack[len(s.stack)-1]
	last.tried, last.left = last.left[0], last.left[1:]
	s.want = last.want + 1
	s.decisions++
}

// restore takes back what was bound and made behind the last choice. Edges of nodes that are bound no more stay, since they are written anew when these are bound again.
func (s *search) restore() {
	last := s.stack[len(s.stack)-1]
	s.node, s.want, s.nodes = last.node, last.want, s.nodes[:last.made]
}

// led is of each name in the environment of the node that is settled the package in its context; false, if a context does not stand.
func (s *search) led() ([]api.Node, bool) {
	var l []api.Node
	env := s.environment()
	for _, p := range env {
		context, stands := s.context(env, p)
		if !stands {
			return nil, false
		}
		l = append(l, api.Node{Name: p.Name, Version: p.Version, Context: context})
	}
	return l, true
}

// context is the context of a package in an environment; false, if it does not stand. One that stood once is the same in each environment that tells of its names the same, and is not looked for there again: a search binds the same nodes time and again.
func (s *search) context(env []api.Pin, p api.Pin) ([]api.Pin, bool) {
	if l, some := s.known[p]; some && tells(env, l) {
		return l, true
	}
	l, stands := wants.Context(s.c, s.m, env, p)
	if stands {
		s.known[p] = l
	}
	return l, stands
}

// tells tells whether an environment has all pins of a context; both rise by name.
func tells(env, context []api.Pin) bool {
	for _, p := range env {
		if len(context) > 0 && context[0] == p {
			context = context[1:]
		}
	}
	return len(context) == 0
}

// environment tells of names the versions that the node that is settled has, by name: its context's, and those that were tried.
func (s *search) environment() []api.Pin {
	env := slices.Clone(s.nodes[s.node].Context)
	own := s.own[s.node]
	for i, x := range s.stack[len(s.stack)-len(own):] {
		if !x.tried.none {
			env = append(env, api.Pin{Name: own[i].Name, Version: x.tried.version})
		}
	}
	slices.SortFunc(env, func(a, b api.Pin) int { return strings.Compare(a.Name, b.Name) })
	// What is wanted and in the context too was tried in the context's version.
	return slices.Compact(env)
}

// lead binds the node that is settled: an edge to each of those, which are made where they are not there; false, if there would be too many.
func (s *search) lead(l []api.Node) bool {
	var edges []api.Edge
	for _, n := range l {
		to := graph.Find(api.Graph{Nodes: s.nodes}, n.Name, n.Version, n.Context)
		if to < 0 {
			if len(s.nodes) == s.limits.Nodes {
				return false
			}
			to, s.nodes = len(s.nodes), append(s.nodes, n)
		}
		edges = append(edges, api.Edge{Label: n.Name, To: to})
	}
	s.nodes[s.node].Edges = edges
	return true
}
