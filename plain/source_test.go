package plain_test

import (
	"math"
	"slices"
	"strings"
	"testing"

	"halyard/api"
	"halyard/catalog"
	"halyard/image"
	"halyard/plain"
	"halyard/span"
	"halyard/tree"
	"halyard/walkup"
)

// source is numbers that look like chance, and are the same each time.
type source uint64

func (s *source) below(n int) int {
	*s = *s*6364136223846793005 + 1442695040888963407
	return int(uint64(*s) >> 33 % uint64(n))
}

// pick is one of a list.
func pick[T any](s *source, l ...T) T { return l[s.below(len(l))] }

// few is names that are near to one another.
var few = []string{"a", "a-", "a-b", "a0", "aa", "b", "c", "modules", "package"}

// hosts are those that others need beside them, guests those that need them so.
var hosts, guests = []string{"a", "aa", "b"}, []string{"a-", "a0", "c"}

// someText is the text of a range that most versions are in.
func (s *source) someText() string {
	return pick(s, "*", "*", "<=2.0.0", ">=2.0.0", "1.0.0 || 3.0.0", "^1.0.0", "2.0.0", "^3.0.0")
}

// someNumber is a number near to what may be, or far from it.
func (s *source) someNumber() int {
	return pick(s, 0, 1, 2, 3, 5, -1, 127, 128, 129, 256, 257, 999, 1000, 1024, 1025, 4096, 4097, math.MinInt, math.MaxInt)
}

// someList puts some of the names into lists, each with a range.
func (s *source) someList(names []string, ease int, lists ...*[]api.Dep) {
	for _, n := range names {
		if k := s.below(ease); k < len(lists) {
			*lists[k] = append(*lists[k], api.Dep{Name: n, Range: ranged(s.someText())})
		}
	}
}

// somePack is what a package wants: of a wild catalog anything, of a tame one such that contexts stand more often.
func (s *source) somePack(p api.Package, tame bool) api.Package {
	if !tame {
		s.someList(few, 20, &p.Deps, &p.Peers, &p.Optional)
		return p
	}
	isHost, isGuest := slices.Contains(hosts, p.Name), slices.Contains(guests, p.Name)
	for _, n := range few {
		forHost, forGuest := slices.Contains(hosts, n), slices.Contains(guests, n)
		switch {
		case isGuest && (forHost && s.below(2) == 0 || forGuest && n != p.Name && s.below(6) == 0):
			p.Peers = append(p.Peers, api.Dep{Name: n, Range: span.All()})
		case !isHost && !isGuest && (forHost || s.below(3) == 0):
			p.Deps = append(p.Deps, api.Dep{Name: n, Range: ranged(s.someText())})
		case isHost && !forHost && !forGuest && s.below(10) == 0:
			p.Optional = append(p.Optional, api.Dep{Name: n, Range: ranged(s.someText())})
		}
	}
	return p
}

// somePacks is packages of all names, in three versions each, in any order.
func (s *source) somePacks() []api.Package {
	var l []api.Package
	tame := s.below(3) > 0
	for _, name := range few {
		for _, v := range []string{"1", "2", "3"} {
			p := s.somePack(api.Package{Name: name, Version: version(v)}, tame)
			l = slices.Insert(l, s.below(len(l)+1), p)
		}
	}
	return l
}

func filled(l []api.Package) *catalog.Catalog {
	c := catalog.New()
	for _, p := range l {
		if e := c.Put(p); e != api.OK {
			panic(flat(p))
		}
	}
	return c
}

// someTask is a search over few names that want one another, and need one another beside them, often: it goes back many times.
func (s *source) someTask() task {
	var l []api.Package
	names := few[:5]
	for _, name := range names {
		for _, v := range []string{"1", "2", "3"} {
			p := api.Package{Name: name, Version: version(v)}
			s.someList(names, 8, &p.Deps, &p.Peers, &p.Optional)
			if s.below(12) > 0 {
				l = append(l, p)
			}
		}
	}
	x := task{c: filled(l), dev: s.below(2) == 0, l: widest}
	for range s.below(4) {
		x.pins = append(x.pins, api.Pin{Name: pick(s, names...), Version: version(pick(s, "1", "2", "3"))})
	}
	s.someList(names, 5, &x.m.Deps, &x.m.Dev, &x.m.Optional, &x.m.Deps)
	s.someList(names, 8, &x.m.Overrides)
	return x
}

// someName is a name, most of the time one that may be.
func (s *source) someName() string {
	if s.below(25) == 0 {
		return pick(s, append(noNames(), "", "zz")...)
	}
	return pick(s, few...)
}

// someStep is a step, most of the time one that can be done.
func (s *source) someStep() api.Step {
	x := api.Step{Op: pick(s, ops...), Name: s.someName(), Range: s.someText(), Kind: s.below(3)}
	// There is nothing to be done without wants.
	if s.below(3) == 0 {
		x.Op = api.StepAdd
	}
	switch s.below(30) {
	case 0:
		x.Kind = pick(s, -1, 3, math.MinInt, math.MaxInt)
	case 1:
		x.Range = pick(s, noRanges()...)
	case 2:
		x.Op = pick(s, 0, 1, 9, 10, 11, -1, math.MinInt, math.MaxInt)
	case 3, 4, 5, 6:
		x.Range = ""
	case 7, 8:
		x.Name = ""
	}
	x.Pack, x.N = pick(s, "", "x", "package a 9.9.9\n"), s.below(5)
	return x
}

// someLimits is limits, most of the time wide ones.
func (s *source) someLimits() api.Limits {
	l := widest
	l.Decisions = 300
	switch s.below(12) {
	case 0:
		l.Decisions = 1 + s.below(12)
	case 1:
		l.Nodes = 1 + s.below(9)
	case 2:
		l.Dirs = 1 + s.below(9)
	case 3:
		l.Path = 9 + s.below(30)
	}
	return l
}

// walks goes through projects, each from the empty one on by some steps, while packages come out; visit is told each step ahead of its being done.
func (s *source) walks(t *testing.T, count int, visit func(p *session, x api.Step)) {
	for range count {
		p := begun(t)
		waiting := s.somePacks()
		for range 14 {
			out := s.below(len(waiting) + 1)
			if len(waiting) < 6 {
				out = len(waiting)
			}
			for _, q := range waiting[:out] {
				if e := p.c.Put(q); e != api.OK {
					t.Fatal(e)
				}
			}
			waiting = waiting[out:]
			x := s.someStep()
			p.l = s.someLimits()
			visit(p, x)
			p.s, _ = plain.Do(p.s, p.c, x, p.l)
		}
	}
}

// grown is a state that may be, of packages of a catalog whose directories stand anywhere, each being a node of its own that leads to all that it finds; some nodes more are not reached.
func (s *source) grown(c *catalog.Catalog) api.State {
	x := image.Empty()
	x.Pruned = s.below(2) == 0
	s.someList(few, 6, &x.Manifest.Deps, &x.Manifest.Dev, &x.Manifest.Optional)
	s.someList(few, 9, &x.Manifest.Overrides)
	packs := c.All()
	for range s.below(20) {
		p := pick(s, packs...)
		path := append(slices.Clone(pick(s, x.Tree.Dirs...).Path), p.Name)
		if tree.Find(x.Tree, path) < 0 {
			x.Tree.Dirs = append(x.Tree.Dirs, api.Dir{Path: path, Pack: p})
		}
	}
	slices.SortFunc(x.Tree.Dirs, func(a, b api.Dir) int { return strings.Compare(tree.Text(a.Path), tree.Text(b.Path)) })
	x.Graph.Nodes = make([]api.Node, len(x.Tree.Dirs))
	for i := range x.Tree.Dirs {
		d, n := &x.Tree.Dirs[i], &x.Graph.Nodes[i]
		d.Node, n.Name, n.Version = i, d.Pack.Name, d.Pack.Version
		for _, label := range few {
			if to := walkup.Look(x.Tree, i, label); to > 0 {
				n.Edges = append(n.Edges, api.Edge{Label: label, To: to})
			}
		}
	}
	for range s.below(3) {
		p := pick(s, packs...)
		x.Graph.Nodes = append(x.Graph.Nodes, api.Node{Name: p.Name, Version: p.Version, Context: pins("a 1")})
	}
	return x
}

// grownWalks goes through states that no command came to, with one step each.
func (s *source) grownWalks(t *testing.T, count int, visit func(p *session, x api.Step)) {
	for range count {
		p := begun(t)
		p.c = filled(s.somePacks())
		for range 8 {
			p.s = s.grown(p.c)
			if _, e := image.Files(p.s); e != api.OK {
				t.Fatalf("it may not be: %s", flat(p.s))
			}
			p.l = s.someLimits()
			visit(p, s.someStep())
		}
	}
}

// anything goes through states and steps of any kind, of which few may be.
func (s *source) anything(t *testing.T, count int, visit func(p *session, x api.Step)) {
	s.walks(t, count, func(p *session, x api.Step) {
		q := p.clone()
		q.s = s.spoiltState(p.s)
		if s.below(4) == 0 {
			q.l = api.Limits{Decisions: s.someNumber(), Nodes: s.someNumber(), Dirs: s.someNumber(), Path: s.someNumber()}
		}
		if s.below(9) == 0 {
			q.c = nil
		}
		visit(q, x)
	})
}

// mixed goes through all of these.
func (s *source) mixed(t *testing.T, count int, visit func(p *session, x api.Step)) {
	s.walks(t, count, visit)
	s.grownWalks(t, count, visit)
	s.anything(t, count/2, visit)
}

// spoiltState is a state that differs a little, so that perhaps it may not be.
func (s *source) spoiltState(x api.State) api.State {
	x = copied(x)
	name, n := pick(s, append(noNames(), few...)...), s.someNumber()
	i, j := s.below(len(x.Tree.Dirs)), s.below(len(x.Tree.Dirs))
	switch s.below(6) {
	case 0:
		x.Manifest.Dev = append(x.Manifest.Dev, api.Dep{Name: name, Range: span.All()})
	case 1:
		x.Manifest.Overrides = append(x.Manifest.Overrides, api.Dep{Name: name, Range: []api.Span{{Hi: api.Version{Major: n}}}})
	case 2:
		x.Tree.Dirs[i].Node = n
	case 3:
		x.Tree.Dirs[i], x.Tree.Dirs[j] = x.Tree.Dirs[j], x.Tree.Dirs[i]
	case 4:
		x.Tree.Dirs = slices.Delete(x.Tree.Dirs, i, i+1)
	case 5:
		x.Graph = s.spoiltGraph(x.Graph)
	}
	return x
}

// spoiltGraph is a graph with a node or more that differs a little, so that perhaps it may not be.
func (s *source) spoiltGraph(g api.Graph) api.Graph {
	g = copied(g)
	x := &g.Nodes[s.below(len(g.Nodes))]
	name := s.someName()
	switch k := s.below(10); {
	case k == 0:
		x.Name = name
	case k == 1:
		x.Version.Major = s.someNumber()
	case k == 2:
		x.Edges = append(x.Edges, api.Edge{Label: name, To: s.someNumber()})
	case k == 3:
		x.Context = append(x.Context, api.Pin{Name: name, Version: version(pick(s, "1", "2", "3"))})
	case k == 4:
		g.Nodes = append(g.Nodes, *x)
	case k == 5 && len(x.Context) > 0:
		x.Context = slices.Delete(x.Context, 0, 1)
	case k == 6 && len(x.Edges) > 0:
		x.Edges[s.below(len(x.Edges))].To = s.someNumber()
	case k > 6 && len(x.Edges) > 0:
		e := &x.Edges[s.below(len(x.Edges))]
		e.To = s.someNode(g, e.Label)
	}
	return g
}

// someNode is the number of a node of that name; 0, if there is none.
func (s *source) someNode(g api.Graph, name string) int {
	l := []int{}
	for i, n := range g.Nodes {
		if i > 0 && n.Name == name {
			l = append(l, i)
		}
	}
	if len(l) == 0 {
		return 0
	}
	return pick(s, l...)
}

// someGraph is a graph that can be placed, be it a solution or not, of packages that a catalog of somePacks has: contexts are such as dependants have, most of the time.
func (s *source) someGraph() api.Graph {
	g := drawn("root")
	for i := range 2 + s.below(14) {
		g.Nodes = append(g.Nodes, api.Node{Name: pick(s, few...), Version: api.Version{Major: 1 + i%3}})
	}
	for i := range g.Nodes {
		n := &g.Nodes[i]
		for _, label := range few {
			if to := s.someNode(g, label); to > 0 && s.below(4) == 0 {
				n.Edges = append(n.Edges, api.Edge{Label: label, To: to})
			}
		}
		for _, e := range n.Edges {
			if i > 0 && s.below(9) == 0 {
				n.Context = append(n.Context, api.Pin{Name: e.Label, Version: g.Nodes[e.To].Version})
			}
		}
	}
	for i := range g.Nodes {
		if s.below(4) > 0 {
			giveBeside(&g.Nodes[i], g)
		}
	}
	return g
}

// giveBeside gives a node the edges that the nodes to which it leads have in their contexts.
func giveBeside(n *api.Node, g api.Graph) {
	for _, e := range slices.Clone(n.Edges) {
		for _, q := range g.Nodes[e.To].Context {
			is := func(x api.Edge) bool { return x.Label == q.Name }
			led := g.Nodes[e.To].Edges[slices.IndexFunc(g.Nodes[e.To].Edges, is)]
			own := slices.IndexFunc(n.Edges, is)
			if own < 0 {
				n.Edges = append(n.Edges, led)
			} else if !slices.ContainsFunc(n.Context, func(p api.Pin) bool { return p.Name == q.Name }) {
				n.Edges[own] = led
			}
		}
	}
	slices.SortFunc(n.Edges, func(a, b api.Edge) int { return strings.Compare(a.Label, b.Label) })
}

// someOld is an old tree of packages, each anywhere.
func (s *source) someOld(packs []api.Package) api.Tree {
	t := api.Tree{Dirs: []api.Dir{{}}}
	for range s.below(40) {
		p := pick(s, packs...)
		path := append(slices.Clone(pick(s, t.Dirs...).Path), p.Name)
		if p.Name != "" && len(path) < 6 && tree.Find(t, path) < 0 {
			t.Dirs = append(t.Dirs, api.Dir{Path: path, Pack: p, Node: 1 + s.below(9)})
		}
	}
	return t
}

// places goes through graphs to be placed, in any limits: those of the projects of walks, such as may be placed, and spoilt ones; without an old tree, with that of the project, with one out of its packages.
func (s *source) places(t *testing.T, count int, visit func(what string, x placed)) {
	inTurn := func(what string, x placed) {
		visit(what, x)
		x.l.Dirs, x.l.Path = 1+s.below(12), 9+s.below(60)
		visit(what+" in any limits", x)
		x.l = widest
		x.old = nil
		visit(what+" without an old tree", x)
		x.g = s.spoiltGraph(x.g)
		visit(what+", spoilt", x)
	}
	var last api.Graph
	s.walks(t, count, func(p *session, x api.Step) {
		next, a := plain.Do(p.s, p.c, x, p.l)
		if a.Code != api.OK || len(next.Graph.Nodes) < 3 {
			return
		}
		q := placed{g: next.Graph, c: p.c, l: widest}
		inTurn("a graph", q.behind(p.s.Tree))
		inTurn("a graph behind packages anywhere", q.behind(s.someOld(q.packs())))
		if last.Nodes != nil {
			q.g = last
			inTurn("a graph of another catalog", q)
		}
		last = next.Graph
	})
	for range count * 5 {
		c := filled(s.somePacks())
		x := placed{g: s.someGraph(), c: c, l: api.Limits{Dirs: 60, Path: 300}}
		inTurn("no solution", x)
		inTurn("no solution behind packages anywhere", x.behind(s.someOld(c.All())))
	}
}
