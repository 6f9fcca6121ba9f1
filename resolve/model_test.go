package resolve_test

import (
	"fmt"
	"maps"
	"slices"
	"testing"

	"halyard/api"
	"halyard/graph"
	"halyard/span"
)

// model is the search by recursion: each choice has a graph of its own, so that there is nothing to take back.
type model struct {
	task
	decisions int
	most      int // how many nodes stood there at most
}

// wanted is a want of the model.
type wanted struct {
	api.Dep
	may bool
}

// chance is a candidate of the model: one version, or none.
type chance []api.Version

func (x task) model() (g api.Graph, decisions, most int, e api.Errno) {
	m := model{task: x, most: 1}
	g, e = m.settle(drawn("root"), 0)
	return g, m.decisions, m.most, e
}

// settle goes on with the node at a place; ErrUnsat: it is to be stepped back.
func (m *model) settle(g api.Graph, place int) (api.Graph, api.Errno) {
	if place == len(g.Nodes) {
		return g, api.OK
	}
	return m.try(g, place, m.wanted(g, place), map[string]api.Version{})
}

// wanted is what the node at a place wants, by name.
func (x task) wanted(g api.Graph, place int) []wanted {
	var l []wanted
	must, may := x.lists(g, place)
	for _, d := range must {
		l = append(l, wanted{Dep: api.Dep{Name: d.Name, Range: x.rangeOf(d)}})
	}
	for _, d := range may {
		l = append(l, wanted{Dep: api.Dep{Name: d.Name, Range: x.rangeOf(d)}, may: true})
	}
	slices.SortFunc(l, func(a, b wanted) int { return slices.Compare([]byte(a.Name), []byte(b.Name)) })
	return l
}

func (m *model) try(g api.Graph, place int, left []wanted, told map[string]api.Version) (api.Graph, api.Errno) {
	if len(left) == 0 {
		return m.bind(g, place, told)
	}
	for _, c := range m.chances(g.Nodes[place], left[0]) {
		if m.decisions++; m.decisions > m.l.Decisions {
			return api.Graph{}, api.ErrBudget
		}
		next := maps.Clone(told)
		for _, v := range c {
			next[left[0].Name] = v
		}
		if found, e := m.try(g, place, left[1:], next); e != api.ErrUnsat {
			return found, e
		}
	}
	return api.Graph{}, api.ErrUnsat
}

// chances is the candidates of a want of a node, in their order.
func (x task) chances(n api.Node, w wanted) []chance {
	var l []chance
	for _, p := range n.Context {
		if p.Name == w.Name {
			if span.In(w.Range, p.Version) {
				l = append(l, chance{p.Version})
			}
			return l
		}
	}
	for _, liked := range []bool{true, false} {
		for _, v := range x.c.Versions(w.Name) {
			if span.In(w.Range, v) && slices.Contains(x.pins, api.Pin{Name: w.Name, Version: v}) == liked {
				l = append(l, chance{v})
			}
		}
	}
	if w.may {
		l = append(l, nil)
	}
	return l
}

func (m *model) bind(g api.Graph, place int, told map[string]api.Version) (api.Graph, api.Errno) {
	l, stand := m.led(g.Nodes[place], told)
	if !stand {
		return api.Graph{}, api.ErrUnsat
	}
	g = clone(g)
	g.Nodes[place].Edges = nil
	for _, n := range l {
		to := slices.IndexFunc(g.Nodes, func(o api.Node) bool { return kind(o) == kind(n) })
		if to < 0 {
			if to = len(g.Nodes); to == m.l.Nodes {
				return api.Graph{}, api.ErrTooMany
			}
			g.Nodes = append(g.Nodes, n)
		}
		g.Nodes[place].Edges = append(g.Nodes[place].Edges, api.Edge{Label: n.Name, To: to})
	}
	m.most = max(m.most, len(g.Nodes))
	return m.settle(g, place+1)
}

// led is what a node leads to, in their contexts, by name; false, if one of these does not stand.
func (x task) led(n api.Node, tried map[string]api.Version) ([]api.Node, bool) {
	told := maps.Clone(tried)
	for _, p := range n.Context {
		told[p.Name] = p.Version
	}
	var l []api.Node
	for _, name := range slices.Sorted(maps.Keys(told)) {
		context, stands := x.context(told, api.Pin{Name: name, Version: told[name]})
		if !stands {
			return nil, false
		}
		l = append(l, api.Node{Name: name, Version: told[name], Context: context})
	}
	return l, true
}

// kind is what makes a node: a package in a context.
func kind(n api.Node) string { return fmt.Sprintf("%s %v %v", n.Name, n.Version, n.Context) }

// clone is a graph in memory of its own, at every depth.
func clone(g api.Graph) api.Graph {
	g.Nodes = slices.Clone(g.Nodes)
	for i, n := range g.Nodes {
		g.Nodes[i].Context, g.Nodes[i].Edges = slices.Clone(n.Context), slices.Clone(n.Edges)
	}
	return g
}

// asModel tells a fault unless the search comes to what the model does, and what follows holds of it; it tells the error.
func (x task) asModel(t *testing.T, what string) api.Errno {
	t.Helper()
	want, decisions, most, refused := x.model()
	if refused != api.OK {
		decisions = 0
	}
	g, n, e := x.run()
	if e != refused || n != decisions || flat(g) != flat(want) {
		t.Fatalf("Run of %s (%v): %s, %d, error %d, not %s, %d, error %d", what, x, flat(g), n, e, flat(want), decisions, refused)
	}
	if e == api.OK {
		x.isSound(t, what, g)
		x.keepsLimits(t, what, g, n, most)
	}
	return e
}

// P11.2: isSound tells a fault unless a graph is a solution, by chapter 10 and by the tests' own means.
func (x task) isSound(t *testing.T, what string, g api.Graph) {
	t.Helper()
	if e, broken := graph.Check(g, x.c, x.m, x.dev), x.solvedBy(g); e != api.OK || broken != 0 {
		t.Fatalf("Run of %s (%v): %s is no solution: error %d, condition %d is broken", what, x, flat(g), e, broken)
	}
}

// P11.4: keepsLimits tells a fault unless the answer is the same in just the limits that it needs, and an error in each that is one less.
func (x task) keepsLimits(t *testing.T, what string, g api.Graph, decisions, most int) {
	t.Helper()
	for _, l := range []struct {
		decisions, nodes int
		want             api.Errno
	}{{max(decisions, 1), most, api.OK}, {decisions - 1, most, api.ErrBudget}, {max(decisions, 1), most - 1, api.ErrTooMany}} {
		if l.decisions < 1 || l.nodes < 1 {
			l.want = api.ErrArg
			if l.decisions < 0 {
				continue
			}
		}
		got, n, e := x.within(l.decisions, l.nodes).run()
		if e != l.want || e == api.OK && (n != decisions || flat(got) != flat(g)) || e != api.OK && (n != 0 || len(got.Nodes) != 0) {
			t.Fatalf("Run of %s (%v) with %d decisions, %d nodes: %s, %d, error %d, not %d", what, x, l.decisions, l.nodes, flat(got), n, e, l.want)
		}
	}
}

// solvable tells whether there is a solution of any size, without any search: of all packages in all contexts that may come about those are taken out, again and again, that can't be bound to such as are left; what is left then gives each the choice that it has, whatever the others choose.
func (x task) solvable() bool {
	waiting := []api.Node{{}}
	ways := map[string][][]string{kind(waiting[0]): nil}
	for i := 0; i < len(waiting); i++ {
		for _, told := range x.allTold(waiting[i]) {
			l, stand := x.led(waiting[i], told)
			if !stand {
				continue
			}
			var to []string
			for _, n := range l {
				if _, met := ways[kind(n)]; !met {
					ways[kind(n)] = nil
					waiting = append(waiting, n)
				}
				to = append(to, kind(n))
			}
			ways[kind(waiting[i])] = append(ways[kind(waiting[i])], to)
		}
	}
	for before := -1; before != len(ways); {
		before = len(ways)
		maps.DeleteFunc(ways, func(_ string, l [][]string) bool {
			return !slices.ContainsFunc(l, func(to []string) bool {
				return !slices.ContainsFunc(to, func(k string) bool { _, left := ways[k]; return !left })
			})
		})
	}
	_, left := ways[kind(api.Node{})]
	return left
}

// allTold is all that may be tried for the wants of a node.
func (x task) allTold(n api.Node) []map[string]api.Version {
	place := 1
	if n.Name == "" {
		place = 0
	}
	all := []map[string]api.Version{{}}
	for _, w := range x.wanted(api.Graph{Nodes: []api.Node{n, n}}, place) {
		var more []map[string]api.Version
		for _, told := range all {
			for _, c := range x.chances(n, w) {
				next := maps.Clone(told)
				for _, v := range c {
					next[w.Name] = v
				}
				more = append(more, next)
			}
		}
		all = more
	}
	return all
}
