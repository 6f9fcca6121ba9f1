package place_test

import (
	"math"
	"slices"
	"strings"

	"halyard/api"
	"halyard/catalog"
	"halyard/graph"
	"halyard/resolve"
	"halyard/span"
	"halyard/tree"
)

// source is numbers that look like chance, and are the same each time.
type source uint64

func (s *source) below(n int) int {
	*s = *s*6364136223846793005 + 1442695040888963407
	return int(uint64(*s) >> 33 % uint64(n))
}

func (s *source) pick(texts ...string) string { return texts[s.below(len(texts))] }

// few is names that are near to one another.
var few = []string{"a", "a-", "a-b", "a0", "aa", "b", "c", "modules", "package"}

// someRange is a range that most versions are in.
func (s *source) someRange() []api.Span {
	l, e := span.Parse(s.pick("*", "<=2.0.0", ">=2.0.0", "1.0.0 || 3.0.0", "1.0.0", "2.0.0", "3.0.0"))
	if e != api.OK {
		panic(e)
	}
	return l
}

// put puts packages of all names in three versions each into a catalog, with what they want.
func put(want func(p *api.Package)) *catalog.Catalog {
	c := catalog.New()
	for _, name := range few {
		for major := range 3 {
			p := api.Package{Name: name, Version: version(1+major, 0, 0)}
			want(&p)
			if e := c.Put(p); e != api.OK {
				panic(e)
			}
		}
	}
	return c
}

// wildCatalog is packages that want one another and need one another beside them.
func (s *source) wildCatalog() *catalog.Catalog {
	ease := 15 + s.below(60)
	return put(func(p *api.Package) {
		for _, n := range few {
			if k := s.below(ease); k < 4 {
				to := listsOf(p)[[]int{0, 0, 1, 2}[k]]
				*to = append(*to, api.Dep{Name: n, Range: s.someRange()})
			}
		}
	})
}

// hosts and guests are names of packages of a tame catalog.
var hosts, guests = []string{"a", "aa", "b"}, []string{"a-", "a0", "c"}

// tameCatalog is packages of which guests need hosts beside them, and perhaps other guests, and the rest need hosts, and some guests, in versions of their own: contexts stand there more often.
func (s *source) tameCatalog() *catalog.Catalog {
	return put(func(p *api.Package) {
		isHost, isGuest := slices.Contains(hosts, p.Name), slices.Contains(guests, p.Name)
		for _, n := range few {
			forHost, forGuest := slices.Contains(hosts, n), slices.Contains(guests, n)
			switch {
			case isGuest && (forHost && s.below(2) == 0 || forGuest && n != p.Name && s.below(6) == 0):
				p.Peers = append(p.Peers, api.Dep{Name: n, Range: span.All()})
			case isHost && !forHost && !forGuest && s.below(12) == 0:
				p.Deps = append(p.Deps, api.Dep{Name: n, Range: s.someRange()})
			case !isHost && !isGuest && (forHost || forGuest && s.below(2) == 0 || s.below(5) == 0):
				p.Deps = append(p.Deps, api.Dep{Name: n, Range: s.someRange()})
			}
		}
	})
}

// someManifest is a project that needs all hosts, and some of the other packages.
func (s *source) someManifest() api.Manifest {
	var m api.Manifest
	for _, n := range few {
		if slices.Contains(hosts, n) || s.below(2) == 0 {
			m.Deps = append(m.Deps, api.Dep{Name: n, Range: s.someRange()})
		}
	}
	return m
}

// solved is a task of a graph that is a solution for a catalog and a manifest, each node with its package; false, if none was found soon.
func solved(c *catalog.Catalog, m api.Manifest) (task, bool) {
	g, _, e := resolve.Run(c, m, true, nil, api.Limits{Decisions: 400, Nodes: api.MaxNodes})
	if e != api.OK {
		return task{}, false
	}
	if graph.Check(g, c, m, true) != api.OK {
		panic(flatGraph(g))
	}
	x := around(g)
	for i, n := range g.Nodes {
		if i > 0 {
			x.packs[i], _ = c.Get(n.Name, n.Version)
		}
	}
	return x, true
}

// solutions is tasks of solutions; two behind one another are of one catalog, so that the tree of the one is an old one for the other.
func (s *source) solutions(count int) []task {
	var l []task
	for len(l) < count {
		c := s.wildCatalog()
		if s.below(3) > 0 {
			c = s.tameCatalog()
		}
		first, ok := solved(c, s.someManifest())
		second, also := solved(c, s.someManifest())
		if ok && also {
			l = append(l, first, second)
		}
	}
	return l
}

// someGraph is a graph that can be placed, be it a solution or not: contexts are such as dependants have, most of the time.
func (s *source) someGraph() api.Graph {
	g := drawn("root")
	for i := range 2 + s.below(14) {
		g.Nodes = append(g.Nodes, api.Node{Name: s.pick(few...), Version: version(1+i%3, 0, 0)})
	}
	for i := range g.Nodes {
		n := &g.Nodes[i]
		for _, label := range few {
			if to := s.someNode(g, label); to > 0 && s.below(4) == 0 {
				n.Edges = append(n.Edges, api.Edge{Label: label, To: to})
			}
		}
		for _, e := range n.Edges {
			if i > 0 && s.below(9) == 0 {
				n.Context = append(n.Context, api.Pin{Name: e.Label, Version: g.Nodes[e.To].Version})
			}
		}
	}
	for i := range g.Nodes {
		if s.below(4) > 0 {
			giveBeside(g, i)
		}
	}
	return g
}

// someNode is the number of a node of that name; 0, if there is none.
func (s *source) someNode(g api.Graph, name string) int {
	var l []int
	for i, n := range g.Nodes {
		if i > 0 && n.Name == name {
			l = append(l, i)
		}
	}
	if len(l) == 0 {
		return 0
	}
	return l[s.below(len(l))]
}

// giveBeside gives a node the edges that the nodes to which it leads have in their contexts.
func giveBeside(g api.Graph, at int) {
	n := &g.Nodes[at]
	for _, e := range slices.Clone(n.Edges) {
		for _, q := range g.Nodes[e.To].Context {
			to := slices.IndexFunc(g.Nodes[e.To].Edges, func(x api.Edge) bool { return x.Label == q.Name })
			led := g.Nodes[e.To].Edges[to]
			own := slices.IndexFunc(n.Edges, func(x api.Edge) bool { return x.Label == q.Name })
			beside := isBeside(*n, q.Name)
			if own < 0 {
				n.Edges = append(n.Edges, led)
			} else if !beside {
				n.Edges[own] = led
			}
		}
	}
	slices.SortFunc(n.Edges, func(a, b api.Edge) int { return strings.Compare(a.Label, b.Label) })
}

// someOld is an old tree of the packages of a task, each anywhere.
func (s *source) someOld(x task) api.Tree {
	t := api.Tree{Dirs: []api.Dir{{}}}
	for range s.below(40) {
		up := t.Dirs[s.below(len(t.Dirs))].Path
		n := s.below(len(x.packs))
		path := append(slices.Clone(up), x.packs[n].Name)
		if n > 0 && len(path) < 6 && tree.Find(t, path) < 0 {
			t.Dirs = append(t.Dirs, api.Dir{Path: path, Pack: x.packs[n], Node: 1 + s.below(9)})
		}
	}
	return t
}

// moved is an old tree for a task out of its own: some of its directories stand lower, some have another package, some are gone.
func (s *source) moved(x task) api.Tree {
	own, _ := x.run()
	t := api.Tree{Dirs: []api.Dir{{}}}
	for i, d := range own.Dirs {
		path := slices.Clone(d.Path)
		if i == 0 || s.below(6) == 0 {
			continue
		}
		if s.below(2) == 0 {
			path = append(slices.Clone(own.Dirs[s.below(len(own.Dirs))].Path), d.Pack.Name)
		}
		above := tree.Find(t, path[:len(path)-1])
		if above >= 0 && tree.Find(t, path) < 0 && len(path) < 30 {
			t.Dirs = append(t.Dirs, api.Dir{Path: path, Pack: d.Pack, Node: d.Node})
		}
	}
	return t
}

// someLimits is limits that may be, often such that there is just room enough for a tree, or just not.
func (s *source) someLimits(x task) api.Limits {
	t, _ := x.run()
	longest := 1
	for _, d := range t.Dirs {
		longest = max(longest, len(tree.Text(d.Path)))
	}
	dirs := min(max(1, len(t.Dirs)-s.below(4)), api.MaxDirs)
	path := min(max(1, longest+1-s.below(12)), api.MaxPath)
	switch s.below(3) {
	case 0:
		return api.Limits{Dirs: dirs, Path: api.MaxPath}
	case 1:
		return api.Limits{Dirs: api.MaxDirs, Path: path}
	}
	return api.Limits{Dirs: dirs, Path: path, Decisions: s.below(9) - 4, Nodes: s.below(9) - 4}
}

// spoilt is a task that differs a little, so that perhaps it can't be placed.
func (s *source) spoilt(x task) task {
	x = x.clone()
	i := s.below(len(x.g.Nodes))
	n := &x.g.Nodes[i]
	switch k := s.below(12); {
	case k == 0:
		n.Version.Major++
	case k == 1:
		n.Name = s.pick(append(noNames(), few...)...)
	case k == 2:
		n.Edges = append(n.Edges, api.Edge{Label: s.pick(few...), To: s.below(len(x.g.Nodes))})
	case k == 3:
		n.Context = append(n.Context, api.Pin{Name: s.pick(few...), Version: version(1+s.below(3), 0, 0)})
	case k == 4:
		x.packs[i].Version.Minor = []int{1, -1, 1000}[s.below(3)]
	case k == 5:
		x.packs = x.packs[:s.below(len(x.packs)+1)]
	case k == 6 && len(n.Context) > 0:
		n.Context = slices.Delete(n.Context, 0, 1)
	case k < 9 && len(n.Edges) > 0:
		at := s.below(len(n.Edges))
		n.Edges = slices.Delete(n.Edges, at, at+1)
	case k == 9 && len(n.Edges) > 0:
		n.Edges[s.below(len(n.Edges))].To = []int{0, -1, len(x.g.Nodes), math.MinInt, math.MaxInt}[s.below(5)]
	case k > 9 && len(n.Edges) > 0:
		e := &n.Edges[s.below(len(n.Edges))]
		e.To = s.someNode(x.g, e.Label)
	}
	return x
}

// anyTask is a task of anything, of which little may be.
func (s *source) anyTask() task {
	var x task
	name := func() string { return s.pick(append(noNames(), few...)...) }
	deps := func() []api.Dep {
		var l []api.Dep
		for range s.below(3) {
			l = append(l, api.Dep{Name: name(), Range: []api.Span{{Lo: version(s.below(4)-1, 0, 0), Hi: version(s.below(4)-1, 0, 0)}}})
		}
		return l
	}
	some := func() api.Package {
		return api.Package{Name: name(), Version: version(s.below(3)-1, 0, 0), Deps: deps(), Peers: deps(), Optional: deps()}
	}
	for range s.below(8) {
		n := api.Node{Name: name(), Version: version(s.below(3)-1, 0, 0)}
		for range s.below(4) {
			n.Edges = append(n.Edges, api.Edge{Label: name(), To: []int{s.below(8), s.below(8), -1, 1000, math.MinInt, math.MaxInt}[s.below(6)]})
		}
		for range s.below(3) {
			n.Context = append(n.Context, api.Pin{Name: name(), Version: version(s.below(3)-1, 0, 0)})
		}
		x.g.Nodes = append(x.g.Nodes, n)
	}
	for range s.below(8) {
		x.packs = append(x.packs, some())
	}
	if s.below(2) == 0 {
		var t api.Tree
		for range s.below(5) {
			d := api.Dir{Pack: some(), Node: s.below(4) - 1}
			for range s.below(3) {
				d.Path = append(d.Path, name())
			}
			t.Dirs = append(t.Dirs, d)
		}
		x.old = &t
	}
	limit := func() int { return []int{0, 1, 4, 256, 1024, 257, -1, math.MinInt, math.MaxInt}[s.below(9)] }
	x.l = api.Limits{Dirs: limit(), Path: limit(), Decisions: limit(), Nodes: limit()}
	if s.below(4) > 0 {
		x.l.Dirs, x.l.Path = 1+s.below(9), 1+s.below(99)
	}
	return x
}
