package image_test

import (
	"math"
	"slices"
	"strings"

	"halyard/api"
	"halyard/catalog"
	"halyard/image"
	"halyard/place"
	"halyard/resolve"
	"halyard/span"
	"halyard/tree"
	"halyard/walkup"
)

// source is numbers that look like chance, and are the same each time.
type source uint64

func (s *source) below(n int) int {
	*s = *s*6364136223846793005 + 1442695040888963407
	return int(uint64(*s) >> 33 % uint64(n))
}

func (s *source) pick(texts ...string) string { return texts[s.below(len(texts))] }

// few is names that are near to one another, and to what else stands in paths.
var few = []string{"a", "a-", "a-b", "a0", "aa", "b", "lock", "modules", "package"}

func (s *source) someRange() []api.Span {
	l, e := span.Parse(s.pick("*", "<=2.0.0", ">=2.0.0", "1.0.0 || 3.0.0", "1.0.0", "^2.0.0"))
	if e != api.OK {
		panic(e)
	}
	return l
}

// spread puts some names, each with a range, into some of the lists.
func (s *source) spread(names []string, ease int, lists ...*[]api.Dep) {
	for _, n := range names {
		if k := s.below(ease); k < len(lists) {
			*lists[k] = append(*lists[k], api.Dep{Name: n, Range: s.someRange()})
		}
	}
}

func (s *source) someManifest() api.Manifest {
	var m api.Manifest
	s.spread(few, 6, &m.Deps, &m.Dev, &m.Optional)
	s.spread(few, 9, &m.Overrides)
	return m
}

// grown is a state whose directories stand anywhere, each being a node of its own that leads to all that it finds; some nodes more are not reached.
func (s *source) grown() api.State {
	x := api.State{Manifest: s.someManifest(), Tree: api.Tree{Dirs: []api.Dir{{}}}, Pruned: s.below(2) == 0}
	for range s.below(25) {
		path := append(slices.Clone(x.Tree.Dirs[s.below(len(x.Tree.Dirs))].Path), s.pick(few...))
		if tree.Find(x.Tree, path) >= 0 {
			continue
		}
		p := api.Package{Name: path[len(path)-1], Version: version(1+s.below(2), 0, 0)}
		s.spread(few, 12, &p.Deps, &p.Peers, &p.Optional)
		x.Tree.Dirs = append(x.Tree.Dirs, api.Dir{Path: path, Pack: p})
	}
	slices.SortFunc(x.Tree.Dirs, func(a, b api.Dir) int { return strings.Compare(textOf(a.Path), textOf(b.Path)) })
	// Which directory is which node.
	numbers := []int{0}
	for i := range x.Tree.Dirs[1:] {
		numbers = slices.Insert(numbers, 1+s.below(len(numbers)), i+1)
	}
	for i := range x.Tree.Dirs {
		x.Tree.Dirs[i].Node = slices.Index(numbers, i)
	}
	for _, at := range numbers {
		d := x.Tree.Dirs[at]
		n := api.Node{Name: d.Pack.Name, Version: d.Pack.Version}
		for _, label := range few {
			if to := walkup.Look(x.Tree, at, label); to > 0 {
				n.Edges = append(n.Edges, api.Edge{Label: label, To: x.Tree.Dirs[to].Node})
			}
		}
		x.Graph.Nodes = append(x.Graph.Nodes, n)
	}
	for range s.below(3) {
		x.Graph.Nodes = append(x.Graph.Nodes, api.Node{Name: s.pick(few...), Version: version(s.below(3), 0, 0), Context: pins("a 1, b 2")[s.below(3):]})
	}
	return x
}

// hosts are names of packages that others need beside them.
var hosts = []string{"a", "aa", "b"}

// solved is a state as commands will make it: of a solution for a catalog, placed.
func (s *source) solved() api.State {
	limits := api.Limits{Decisions: 300, Nodes: api.MaxNodes, Dirs: api.MaxDirs, Path: api.MaxPath}
	for {
		c := catalog.New()
		for _, name := range few {
			for major := range 3 {
				p := api.Package{Name: name, Version: version(1+major, 0, 0)}
				isHost := slices.Contains(hosts, name)
				for _, n := range few {
					forHost := slices.Contains(hosts, n)
					switch {
					case !isHost && forHost && s.below(4) == 0:
						p.Peers = append(p.Peers, api.Dep{Name: n, Range: span.All()})
					case s.below(8) == 0:
						p.Deps = append(p.Deps, api.Dep{Name: n, Range: s.someRange()})
					}
				}
				c.Put(p)
			}
		}
		x := api.State{Manifest: s.someManifest(), Pruned: s.below(2) == 0}
		g, _, e := resolve.Run(c, x.Manifest, !x.Pruned, nil, limits)
		if e != api.OK {
			continue
		}
		packs := []api.Package{{}}
		for _, n := range g.Nodes[1:] {
			p, _ := c.Get(n.Name, n.Version)
			packs = append(packs, p)
		}
		if t, e := place.Run(g, packs, limits, nil); e == api.OK {
			x.Graph, x.Tree = g, t
			return x
		}
	}
}

// states is states that may be, of both kinds.
func (s *source) states(count int) []api.State {
	var l []api.State
	for range count {
		l = append(l, s.grown(), s.solved())
	}
	return l
}

// mixed is states of which some may not be.
func (s *source) mixed(count int) []api.State {
	var l []api.State
	for _, x := range s.states(count) {
		l = append(l, x, s.spoilt(x), s.anyState())
	}
	return l
}

// spoilt is a state that differs a little, so that perhaps it may not be.
func (s *source) spoilt(x api.State) api.State {
	x = copied(x)
	switch s.below(4) {
	case 0:
		s.spoilManifest(&x.Manifest)
	case 1:
		s.spoilGraph(&x.Graph)
	default:
		s.spoilTree(&x.Tree)
	}
	return x
}

func (s *source) spoilManifest(m *api.Manifest) {
	l := []*[]api.Dep{&m.Deps, &m.Dev, &m.Optional, &m.Overrides}[s.below(4)]
	*l = slices.Insert(*l, s.below(len(*l)+1), api.Dep{Name: s.pick(append(noNames(), few...)...), Range: span.All()[s.below(2):]})
}

func (s *source) spoilGraph(g *api.Graph) {
	n := &g.Nodes[s.below(len(g.Nodes))]
	switch s.below(5) {
	case 0:
		n.Version.Major += s.below(3) - 1
	case 1:
		n.Name = s.pick(append(noNames(), few...)...)
	case 2:
		g.Nodes = append(g.Nodes, *n)
	case 3:
		n.Edges = append(n.Edges, api.Edge{Label: s.pick(append(noNames(), few...)...), To: s.below(len(g.Nodes) + 1)})
	case 4:
		for i := range n.Edges {
			if s.below(3) == 0 {
				n.Edges[i].To = s.below(len(g.Nodes) + 1)
			}
		}
	}
}

func (s *source) spoilTree(t *api.Tree) {
	if len(t.Dirs) == 0 {
		return
	}
	i, j := s.below(len(t.Dirs)), s.below(len(t.Dirs))
	d := &t.Dirs[i]
	switch s.below(8) {
	case 0:
		t.Dirs[i], t.Dirs[j] = t.Dirs[j], t.Dirs[i]
	case 1:
		d.Node = t.Dirs[j].Node
	case 2:
		d.Node = []int{-1, 0, 1, math.MinInt, math.MaxInt}[s.below(5)]
	case 3:
		t.Dirs = slices.Delete(t.Dirs, i, i+1)
	case 4:
		t.Dirs = slices.Insert(t.Dirs, j, *d)
	case 5:
		d.Pack.Version.Major += s.below(3) - 1
	case 6:
		s.spread(few, 20, &d.Pack.Deps, &d.Pack.Peers, &d.Pack.Optional)
	case 7:
		name := s.pick(append(noNames(), few...)...)
		more := api.Dir{Path: append(slices.Clone(d.Path), name), Pack: api.Package{Name: name}, Node: 1}
		t.Dirs = slices.Insert(t.Dirs, j+1, more)
	}
}

// anyState is a state of anything, of which few may be.
func (s *source) anyState() api.State {
	name := func() string { return s.pick(append(noNames(), "a", "b", "a", "b", "a", "b")...) }
	number := func() int { return []int{0, 1, 2, 0, 1, 2, -1, 1000, math.MinInt, math.MaxInt}[s.below(10)] }
	x := image.Empty()
	x.Pruned = s.below(2) == 0
	if s.below(4) == 0 {
		x.Graph, x.Tree = api.Graph{}, api.Tree{}
	}
	for range s.below(3) {
		x.Manifest.Deps = append(x.Manifest.Deps, api.Dep{Name: name(), Range: []api.Span{{Hi: version(number(), 0, 0)}}})
	}
	for range s.below(4) {
		x.Graph.Nodes = append(x.Graph.Nodes, api.Node{Name: name(), Version: version(number(), 0, 0)})
		n := &x.Graph.Nodes[s.below(len(x.Graph.Nodes))]
		n.Edges = append(n.Edges, api.Edge{Label: name(), To: number()})
	}
	for range s.below(4) {
		var d api.Dir
		for range s.below(3) {
			d.Path = append(d.Path, name())
		}
		d.Pack, d.Node = api.Package{Name: name(), Version: version(number(), 0, 0)}, number()
		x.Tree.Dirs = append(x.Tree.Dirs, d)
	}
	return x
}

// shuffled is the same files in another order.
func (s *source) shuffled(l []api.File) []api.File {
	var out []api.File
	for _, f := range l {
		out = slices.Insert(out, s.below(len(out)+1), f)
	}
	return out
}

// somePath is a path that a project's file might have, or nearly.
func (s *source) somePath() string {
	path := ""
	for range s.below(4) {
		path += s.pick("/modules/", "/modules/", "/modules/", "/", "modules/") + s.pick(few...)
	}
	return path + s.pick("/package", "/modules", "", "/", "/lock", "/manifest", "/pruned", "/x", "\xff", "/A")
}

// someData is bytes that a project's file might have.
func (s *source) someData() string {
	return s.pick("", "x", "project\n", "project\nneeds a *\n", "project\nlikes b 1.0.0\n", "lock\nroot\n", "lock\nroot\nto a 1\nnode a 1.0.0\n", "package a 1.0.0\n", "package b 1.0.0\n", "package a 2.0.0\nneeds b *\n", "package a 1.0.0\nneeds b >=0.0.0\n")
}

// spoiltFiles is files that differ a little, in another order.
func (s *source) spoiltFiles(l []api.File) []api.File {
	l = s.shuffled(l)
	more := api.File{Path: s.somePath(), Dir: s.below(2) == 0, Data: s.someData()}
	if len(l) == 0 || s.below(9) == 0 {
		return append(l, more)
	}
	i, j := s.below(len(l)), s.below(len(l))
	switch f := &l[i]; s.below(9) {
	case 0:
		return slices.Delete(l, i, i+1)
	case 1:
		return append(l, *f)
	case 2:
		f.Dir = !f.Dir
	case 3:
		f.Data += s.pick("\n", "x", " ", "node a 1.0.0\n", "needs zz *\n")
	case 4:
		f.Data = f.Data[:max(0, len(f.Data)-1)]
	case 5:
		f.Data, l[j].Data = l[j].Data, f.Data
	case 6:
		f.Path = s.somePath()
	case 7:
		return append(l, api.File{Path: f.Path + s.pick("/modules", "/package", "/modules/a", "-", "/"), Dir: more.Dir})
	case 8:
		return append(l, api.File{Path: "/pruned", Data: s.pick("", "", "x"), Dir: s.below(4) == 0})
	}
	return l
}

// anyFiles is files of any kind.
func (s *source) anyFiles() []api.File {
	var l []api.File
	if s.below(2) == 0 {
		l = append(l, file("/manifest", s.someData()), file("/lock", s.someData()))
	}
	for range s.below(5) {
		l = append(l, api.File{Path: s.somePath(), Dir: s.below(2) == 0, Data: s.pick("", s.someData())})
	}
	return s.shuffled(l)
}

// noNames is names that may not be.
func noNames() []string {
	return []string{"", "A", "aB", "1a", "-a", "a_b", "a.b", "a/b", "/", "a b", "a\n", "\x00", "\xff", "\u00e9", "..", "abcdefghijklmnopq", strings.Repeat("a", 5000)}
}
