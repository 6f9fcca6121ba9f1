package graph_test

import (
	"fmt"
	"slices"
	"strings"
	"testing"

	"halyard/api"
	"halyard/graph"
	"halyard/lock"
)

// edgeOf is the place to which a node's edge of a label leads; -1: it has none.
func edgeOf(n api.Node, label string) int {
	for _, e := range n.Edges {
		if e.Label == label {
			return e.To
		}
	}
	return -1
}

// broken is a graph that differs a little.
func (s *source) broken(g api.Graph) api.Graph {
	g = clone(g)
	i := s.below(len(g.Nodes))
	n := &g.Nodes[i]
	switch s.below(11) {
	case 0:
		n.Version = s.someVersion()
	case 1:
		n.Name = s.pick(few...)
	case 2:
		if len(n.Edges) > 0 {
			n.Edges[s.below(len(n.Edges))].To = s.below(len(g.Nodes)+2) - 1
		}
	case 3:
		if len(n.Edges) > 0 {
			n.Edges = slices.Delete(n.Edges, 0, 1)
		}
	case 4:
		// To a node of that name, where a label rises.
		to := s.below(len(g.Nodes))
		n.Edges = append(n.Edges, api.Edge{Label: g.Nodes[to].Name, To: to})
		slices.SortFunc(n.Edges, func(a, b api.Edge) int { return strings.Compare(a.Label, b.Label) })
	case 5:
		if len(n.Context) > 0 {
			n.Context[s.below(len(n.Context))].Version = s.someVersion()
		}
	case 6:
		n.Context = nil
	case 7:
		n.Context = append(n.Context, api.Pin{Name: s.pick(few...), Version: s.someVersion()})
	case 8:
		g.Nodes = append(g.Nodes, g.Nodes[i])
	case 9:
		// To another node of the same name.
		for k, e := range n.Edges {
			for to, other := range g.Nodes {
				if other.Name == e.Label && to != e.To {
					n.Edges[k].To = to
				}
			}
		}
	case 10:
		slices.Reverse(n.Edges)
	}
	return g
}

// P10.1: solutions, and graphs that differ from them a little, are as the model tells.
func TestAsModel(t *testing.T) {
	tasks, graphs := solutions(1, 500)
	s := source(2)
	met := map[int]int{}
	for i, x := range tasks {
		if x.asModel(t, graphs[i]) != 1 {
			t.Fatalf("%s is no solution", flat(graphs[i]))
		}
		for range 40 {
			g := s.broken(graphs[i])
			x.asModel(t, g)
			met[x.solvedBy(g)]++
			x.asModel(t, s.broken(g))
		}
		other := x
		other.dev = !x.dev
		other.asModel(t, graphs[i])
		other.m.Overrides = s.someTask().m.Overrides
		other.asModel(t, graphs[i])
		other.c = tasks[s.below(len(tasks))].c
		other.asModel(t, graphs[i])
	}
	for number := range 6 {
		if met[number] < 100 {
			t.Errorf("%d graphs broke condition %d", met[number], number)
		}
	}
}

// P10.1: nodes behind the first one may stand in any order.
func TestAnyOrderOfNodes(t *testing.T) {
	tasks, graphs := solutions(3, 200)
	s := source(4)
	for i, x := range tasks {
		x.answers(t, "a solution in another order", s.shuffled(graphs[i]), api.OK)
	}
}

// shuffled is the same nodes behind the first one in another order.
func (s *source) shuffled(g api.Graph) api.Graph {
	places := []int{0}
	for i := range g.Nodes[1:] {
		places = slices.Insert(places, 1+s.below(i+1), i+1)
	}
	out := api.Graph{Nodes: make([]api.Node, len(g.Nodes))}
	for i, n := range clone(g).Nodes {
		for j, e := range n.Edges {
			n.Edges[j].To = places[e.To]
		}
		out.Nodes[places[i]] = n
	}
	return out
}

// P10.3: of a solution, where a node has an edge to p, and p's context has a Label n, the node has an edge n, too, and both lead to one node.
func TestOneInstance(t *testing.T) {
	_, graphs := solutions(5, 500)
	looked, twoContexts := 0, 0
	for _, g := range graphs {
		for _, n := range g.Nodes {
			for _, e := range n.Edges {
				p := g.Nodes[e.To]
				for _, c := range p.Context {
					looked++
					if edgeOf(n, c.Name) < 1 || edgeOf(n, c.Name) != edgeOf(p, c.Name) {
						t.Fatalf("%v and %v do not have one %s in %s", n, p, c.Name, flat(g))
					}
				}
			}
			if len(n.Context) > 0 && slices.ContainsFunc(g.Nodes, func(o api.Node) bool {
				return o.Name == n.Name && o.Version == n.Version && !slices.Equal(o.Context, n.Context)
			}) {
				twoContexts++
			}
		}
	}
	if looked < 1000 || twoContexts < 30 {
		t.Errorf("%d looked at, %d in two contexts", looked, twoContexts)
	}
}

// P10.3: a graph in which a node and p beside it have two nodes n, though these are of one version, is no solution.
func TestTwoInstances(t *testing.T) {
	x := of("needs a, q", "a 1.0.0; needs b, p, r 1.0.0", "q 1.0.0; needs b, r 2.0.0", "p 1.0.0; beside b; likes r", "b 1.0.0; beside r", "r 1.0.0", "r 2.0.0")
	nodes := func(p string) []string {
		return []string{"root: a 1, q 2", "a 1.0.0: b 3, p 4, r 5", "q 1.0.0: b 6, r 7", "b 1.0.0 with r 1.0.0: r 5", p, "r 1.0.0", "b 1.0.0 with r 2.0.0: r 7", "r 2.0.0"}
	}
	x.solved(t, "one b", nodes("p 1.0.0 with b 1.0.0, r 1.0.0: b 3, r 5")...)
	x.refused(t, "another b of that version", nodes("p 1.0.0 with b 1.0.0, r 1.0.0: b 6, r 5")...)
	x.refused(t, "another b of that version, with its r", nodes("p 1.0.0 with b 1.0.0, r 2.0.0: b 6, r 7")...)
}

// P10.4: a solution's nodes without a context, of one Name and Version, are one.
func TestOwn(t *testing.T) {
	tasks, graphs := solutions(6, 300)
	looked := 0
	for i, g := range graphs {
		times := map[string]int{}
		for j, n := range g.Nodes {
			if j == 0 || len(n.Context) > 0 {
				continue
			}
			looked++
			text := fmt.Sprint(n.Name, n.Version)
			times[text]++
			if times[text] > 1 {
				t.Fatalf("%s stands there twice in %s", text, flat(g))
			}
			// A second one, to which one of its dependants leads.
			other := clone(g)
			other.Nodes = append(other.Nodes, clone(api.Graph{Nodes: []api.Node{n}}).Nodes...)
			redirect(other, j, len(g.Nodes))
			tasks[i].answers(t, "a solution with a node twice", other, api.ErrGraph)
		}
	}
	if looked < 300 {
		t.Errorf("%d looked at", looked)
	}
}

// redirect leads the last edge to a node to another one.
func redirect(g api.Graph, from, to int) {
	for i := len(g.Nodes) - 1; i >= 0; i-- {
		for j, e := range g.Nodes[i].Edges {
			if e.To == from {
				g.Nodes[i].Edges[j].To = to
				return
			}
		}
	}
}

// P10.2: Find, Reach, Pins and Same of solutions, and of graphs that differ from them a little, are as loops by the tests' own means tell.
func TestAskedAsModel(t *testing.T) {
	_, graphs := solutions(7, 200)
	s := source(8)
	for _, g := range graphs {
		for range 10 {
			same(t, "nothing", g, clone(g), true)
			askedAsModel(t, g)
			other := s.broken(g)
			same(t, "something or not", g, other, flat(g) == flat(other))
			g = other
		}
	}
}

// askedAsModel tells a fault unless all that is asked of a graph is answered as it must be.
func askedAsModel(t *testing.T, g api.Graph) {
	t.Helper()
	var places []int
	for i, met := range reached(g) {
		if met {
			places = append(places, i)
		}
	}
	reaches(t, g, places...)
	for i, n := range g.Nodes {
		first := slices.IndexFunc(g.Nodes, func(o api.Node) bool {
			return fmt.Sprint(o.Name, o.Version, o.Context) == fmt.Sprint(n.Name, n.Version, n.Context)
		})
		if got := graph.Find(g, n.Name, n.Version, n.Context); got != first {
			t.Fatalf("Find of the node at %d in %s: %d, not %d", i, flat(g), got, first)
		}
	}
	if got, want := graph.Pins(g), modelPins(g); !slices.Equal(got, want) {
		t.Fatalf("Pins of %s: %v, not %v", flat(g), got, want)
	}
}

// modelPins puts each pair that is not there yet ahead of the first that is greater.
func modelPins(g api.Graph) []api.Pin {
	var l []api.Pin
	for i, n := range g.Nodes {
		p := api.Pin{Name: n.Name, Version: n.Version}
		if i == 0 || slices.Contains(l, p) {
			continue
		}
		at := 0
		for at < len(l) && lessPin(l[at], p) {
			at++
		}
		l = slices.Insert(l, at, p)
	}
	return l
}

func lessPin(a, b api.Pin) bool {
	if a.Name != b.Name {
		return slices.Compare([]byte(a.Name), []byte(b.Name)) < 0
	}
	v, w := a.Version, b.Version
	return slices.Compare([]int{v.Major, v.Minor, v.Patch}, []int{w.Major, w.Minor, w.Patch}) < 0
}

// A solution has the form of a graph (chapter 7), so that it has a text, of which it comes back as the same.
func TestSolutionsHaveTexts(t *testing.T) {
	_, graphs := solutions(9, 100)
	for _, g := range graphs {
		text, e := lock.Print(g)
		back, e2 := lock.Parse(text)
		if e != api.OK || e2 != api.OK || !graph.Same(g, back) {
			t.Fatalf("%s: errors %d, %d", flat(g), e, e2)
		}
	}
}
