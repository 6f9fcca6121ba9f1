package plain_test

import (
	"fmt"
	"math"
	"slices"
	"strings"
	"testing"

	"halyard/api"
	"halyard/catalog"
	"halyard/pack"
	"halyard/place"
	"halyard/plain"
	"halyard/span"
	"halyard/tree"
)

// placed is what is to be placed.
type placed struct {
	g   api.Graph
	c   *catalog.Catalog
	l   api.Limits
	old *api.Tree
}

// packOf is a package for a node: it needs beside it what the context has, and needs the rest, as far as there is room.
func packOf(n api.Node) api.Package {
	p := api.Package{Name: n.Name, Version: n.Version}
	for _, e := range n.Edges {
		to := &p.Deps
		if slices.ContainsFunc(n.Context, func(q api.Pin) bool { return q.Name == e.Label }) {
			to = &p.Peers
		}
		if len(*to) < api.MaxList {
			*to = append(*to, api.Dep{Name: e.Label, Range: span.All()})
		}
	}
	return p
}

// around is a graph to be placed in the greatest limits, with a catalog that has a package for each name and version of its nodes.
func around(g api.Graph) placed {
	c := catalog.New()
	for _, n := range g.Nodes[1:] {
		if e := c.Put(packOf(n)); e != api.OK && e != api.ErrThere {
			panic(flat(n))
		}
	}
	return placed{g: g, c: c, l: widest}
}

// standing is the graph of those nodes, to be placed.
func standing(nodes ...string) placed { return around(drawn(nodes...)) }

// within is the same within other limits.
func (x placed) within(dirs, path int) placed {
	x.l.Dirs, x.l.Path = dirs, path
	return x
}

// behind is the same with that old tree.
func (x placed) behind(old api.Tree) placed {
	x.old = &old
	return x
}

// liking is the same with an old tree of those texts.
func (x placed) liking(texts ...string) placed { return x.behind(x.grown(texts...)) }

// grown is a tree of the root and the directories of those texts, in their order: a path, such as `a/b`, and the number of the node of which it has the package.
func (x placed) grown(texts ...string) api.Tree {
	t := api.Tree{Dirs: []api.Dir{{}}}
	for _, s := range texts {
		path, n, _ := strings.Cut(s, " ")
		t.Dirs = append(t.Dirs, api.Dir{Path: strings.Split(path, "/"), Pack: x.packs()[number(n)], Node: number(n)})
	}
	return t
}

// changed is the same with a graph that differs.
func (x placed) changed(change func(g *api.Graph)) placed {
	x.g = copied(x.g)
	change(&x.g)
	return x
}

// packs is of each node its package as the catalog has it; of the first one, and of one that it has not, the zero one.
func (x placed) packs() []api.Package {
	var l []api.Package
	for i, n := range x.g.Nodes {
		var p api.Package
		if i > 0 {
			p, _ = x.c.Get(n.Name, n.Version)
		}
		l = append(l, p)
	}
	return l
}

func (x placed) String() string {
	s := flat(x.g) + flat(x.l)
	if x.old != nil {
		s += " behind " + flat(*x.old)
	}
	return s
}

// asRun is the tree that comes of it; it tells a fault unless that is what place.Run tells.
func (x placed) asRun(t *testing.T, what string) (api.Tree, api.Errno) {
	t.Helper()
	got, e := plain.Place(x.g, x.c, x.l, x.old)
	want, f := api.Tree{}, api.ErrArg
	if x.c != nil {
		want, f = place.Run(x.g, x.packs(), x.l, x.old)
	}
	if e != f || !sameTree(got, want) {
		t.Fatalf("%s: %s: %s, error %d, not %s, error %d", what, x, flat(got), e, flat(want), f)
	}
	return got, e
}

// stands tells a fault unless just the tree of those texts comes of it, in their order; and with just enough room the same, and with less none.
func (x placed) stands(t *testing.T, what string, texts ...string) {
	t.Helper()
	want := x.grown(texts...)
	if got, e := x.asRun(t, what); e != api.OK || !sameTree(got, want) {
		t.Errorf("%s: %s, error %d, not %q", what, flat(got), e, texts)
		return
	}
	dirs, longest := len(texts), 0
	for _, d := range want.Dirs {
		longest = max(longest, len(tree.Text(d.Path)))
	}
	if got, e := x.within(max(dirs, 1), longest).asRun(t, what); e != api.OK || !sameTree(got, want) {
		t.Errorf("%s with just enough room: %s, error %d", what, flat(got), e)
	}
	if dirs > 1 {
		x.within(dirs-1, longest).fails(t, what+" with a directory less", api.ErrTooDeep)
	}
	if dirs > 0 {
		x.within(dirs, longest-1).fails(t, what+" with a byte less", api.ErrTooLong)
	}
}

// fails tells a fault unless it is refused by that error, with nothing beside it.
func (x placed) fails(t *testing.T, what string, want api.Errno) {
	t.Helper()
	if got, e := x.asRun(t, what); e != want || len(got.Dirs) != 0 {
		t.Errorf("%s: %s, error %d, not %d", what, flat(got), e, want)
	}
}

// placing is the graph of chapter 14's example: the root needs a and c, a needs b 1, c needs b 2.
func placing() placed { return standing("root: a 1, c 2", "a 1: b 3", "c 1: b 4", "b 1", "b 2") }

// P21.2: the examples of chapter 14.
func TestExamplesOfPlace(t *testing.T) {
	placing().stands(t, "the example", "a 1", "b 3", "c 2", "c/b 4")
	too := standing("root: a 1, b 4, c 2", "a 1: b 3", "c 1: b 4", "b 1", "b 2")
	too.stands(t, "the example with b of the root", "a 1", "a/b 3", "b 4", "c 2")
	for _, x := range []placed{placing(), too} {
		x.within(3, 1024).fails(t, "Dirs 3", api.ErrTooDeep)
		x.within(4, 19).fails(t, "Path 19", api.ErrTooLong)
		if got, e := x.within(4, 20).asRun(t, "Path 20"); e != api.OK || len(got.Dirs) != 5 {
			t.Errorf("Dirs 4, Path 20: %s, error %d", flat(got), e)
		}
	}
}

// P21.2: without a catalog, whatever else may be or not.
func TestPlaceWithoutCatalog(t *testing.T) {
	for _, x := range []placed{placing(), placing().within(0, 0), placing().behind(api.Tree{}), placing().liking("a 1"), {}, {l: widest}, {g: drawn("root"), l: widest}} {
		x.c = nil
		x.fails(t, "no catalog", api.ErrArg)
	}
	if got, e := plain.Place(drawn("root"), &catalog.Catalog{}, least, nil); e != api.OK || len(got.Dirs) != 1 {
		t.Errorf("a catalog that New did not give: %s, error %d", flat(got), e)
	}
}

// P21.2: each of the two limits one below and one above what it may be, and at both ends; the two others are not looked at.
func TestPlaceLimits(t *testing.T) {
	for _, of := range []limit{dirs, path} {
		for _, n := range of.outside() {
			for _, x := range []placed{placing(), standing("root"), placing().behind(api.Tree{}), {c: catalog.New()}} {
				x.l = of.of(widest, n)
				x.fails(t, fmt.Sprintf("%s %d", of.name, n), api.ErrArg)
			}
		}
		for _, n := range of.ends() {
			x := standing("root")
			x.l = of.of(least, n)
			if got, e := x.asRun(t, "the root alone"); e != api.OK || len(got.Dirs) != 1 {
				t.Errorf("the root alone, with %s %d: %s, error %d", of.name, n, flat(got), e)
			}
			y := placing()
			y.l = of.of(widest, n)
			y.asRun(t, "the example")
		}
	}
	for _, of := range []limit{decisions, nodes} {
		for _, n := range append(of.outside(), of.ends()...) {
			x := placing()
			x.l = of.of(x.l, n)
			x.stands(t, fmt.Sprintf("%s %d", of.name, n), "a 1", "b 3", "c 2", "c/b 4")
		}
	}
	one := standing("root: a 1", "a 1")
	one.within(1, 10).stands(t, "the least room", "a 1")
	one.within(1, 1).fails(t, "the least limits", api.ErrTooLong)
}

// wide is a tree of so many directories beside the root.
func wide(count int) api.Tree {
	t := api.Tree{Dirs: []api.Dir{{}}}
	for _, n := range names("n", count) {
		t.Dirs = append(t.Dirs, api.Dir{Path: []string{n}, Pack: api.Package{Name: n}, Node: 1})
	}
	return t
}

// P21.2: an old tree that may not be.
func TestOldThatMayNotBe(t *testing.T) {
	x := placing()
	for what, change := range map[string]func(t *api.Tree){
		"no directories":        func(t *api.Tree) { t.Dirs = nil },
		"no root":               func(t *api.Tree) { t.Dirs = t.Dirs[1:] },
		"a root with a node":    func(t *api.Tree) { t.Dirs[0].Node = 1 },
		"a root with a package": func(t *api.Tree) { t.Dirs[0].Pack.Name = "a" },
		"a path twice":          func(t *api.Tree) { t.Dirs = append(t.Dirs, t.Dirs[1]) },
		"no directory above":    func(t *api.Tree) { t.Dirs = slices.Delete(t.Dirs, 1, 2) },
		"one above behind it":   func(t *api.Tree) { t.Dirs[1], t.Dirs[2] = t.Dirs[2], t.Dirs[1] },
		"another package":       func(t *api.Tree) { t.Dirs[3].Pack.Name = "b" },
		"a version too great":   func(t *api.Tree) { t.Dirs[3].Pack.Version.Minor = 1000 },
		"a node of 0":           func(t *api.Tree) { t.Dirs[2].Node = 0 },
		"a node below 0":        func(t *api.Tree) { t.Dirs[2].Node = math.MinInt },
		"a name that is none":   func(t *api.Tree) { t.Dirs[3].Path, t.Dirs[3].Pack.Name = []string{"C"}, "C" },
		"too many":              func(t *api.Tree) { *t = wide(257) },
		"far too many":          func(t *api.Tree) { *t = wide(5000) },
	} {
		old := x.grown("a 1", "a/b 3", "c 2")
		change(&old)
		if tree.Check(old) != api.ErrTree {
			t.Fatal(what)
		}
		x.behind(old).fails(t, what, api.ErrTree)
		x.behind(old).within(1, 1).fails(t, what+", in the least room", api.ErrTree)
		standing("root").behind(old).fails(t, what+", nothing to place", api.ErrTree)
		placed{c: x.c, l: widest}.behind(old).fails(t, what+", no graph", api.ErrTree)
	}
	x.behind(wide(256)).stands(t, "as many as may be", "a 1", "b 3", "c 2", "c/b 4")
}

// row is a graph of so many nodes, the root too, each of which leads to the next one.
func row(count int) api.Graph {
	g := drawn("root")
	for i, n := range names("n", count-1) {
		g.Nodes[i].Edges = []api.Edge{{Label: n, To: i + 1}}
		g.Nodes = append(g.Nodes, api.Node{Name: n, Version: version("1")})
	}
	return g
}

// upright is a graph that is a solution, and can be placed.
func upright() placed {
	return standing("root: a 1, b 2, p 3", "a 1: b 2, p 3", "b 1", "p 1 with a 1, b 1: a 1, b 2", "b 2", "p 1 with b 1: b 2")
}

// noGraphs is changes by which upright can't be placed any more.
func noGraphs() map[string]func(g *api.Graph) {
	l := map[string]func(g *api.Graph){
		"no nodes":                         func(g *api.Graph) { g.Nodes = nil },
		"no root":                          func(g *api.Graph) { g.Nodes = g.Nodes[1:] },
		"one node more than may be":        func(g *api.Graph) { *g = row(129) },
		"a root with a name":               func(g *api.Graph) { g.Nodes[0].Name = "a" },
		"a root with a version":            func(g *api.Graph) { g.Nodes[0].Version.Patch = 1 },
		"a root that is a package":         func(g *api.Graph) { g.Nodes[0].Name, g.Nodes[0].Version = "a", version("1") },
		"a root with a context":            func(g *api.Graph) { g.Nodes[0].Context = pins("a 1") },
		"a second root":                    func(g *api.Graph) { g.Nodes = append(g.Nodes, api.Node{}) },
		"a version that is not there":      func(g *api.Graph) { g.Nodes[4].Version = version("3") },
		"a name that is not there":         func(g *api.Graph) { g.Nodes[5].Name = "q" },
		"a node more that is not there":    func(g *api.Graph) { g.Nodes = append(g.Nodes, api.Node{Name: "zz", Version: version("1")}) },
		"a context that falls":             func(g *api.Graph) { g.Nodes[3].Context = pins("b 1, a 1") },
		"a context with a name twice":      func(g *api.Graph) { g.Nodes[3].Context = pins("a 1, a 1, b 1") },
		"a context twice":                  func(g *api.Graph) { g.Nodes[3].Context = pins("a 1, b 1, a 1, b 1") },
		"a context that falls, the last":   func(g *api.Graph) { g.Nodes[5].Context = pins("b 1, b 1") },
		"edges that fall":                  func(g *api.Graph) { g.Nodes[0].Edges = edges("b 2, a 1, p 3") },
		"edges that fall at the end":       func(g *api.Graph) { g.Nodes[0].Edges = edges("a 1, p 3, b 2") },
		"an edge twice":                    func(g *api.Graph) { g.Nodes[0].Edges = edges("a 1, b 2, b 2, p 3") },
		"a label twice":                    func(g *api.Graph) { g.Nodes[0].Edges = edges("a 1, b 2, b 4, p 3") },
		"edges that fall, of the last one": func(g *api.Graph) { g.Nodes[5].Edges = edges("b 2, a 1") },
		"a name without an edge":           func(g *api.Graph) { g.Nodes[3].Edges = edges("b 2") },
		"a last name without an edge":      func(g *api.Graph) { g.Nodes[3].Edges = edges("a 1") },
		"a context without edges":          func(g *api.Graph) { g.Nodes[3].Edges = nil },
		"a name with an edge to a version": func(g *api.Graph) { g.Nodes[3].Edges = edges("a 1, b 4") },
		"a name of no node":                func(g *api.Graph) { g.Nodes[3].Context = pins("a 1, b 1, c 1") },
		"a name that may not be":           func(g *api.Graph) { g.Nodes[3].Context = append([]api.Pin{{}}, g.Nodes[3].Context...) },
		"an edge to the root by its name":  func(g *api.Graph) { g.Nodes[2].Edges = []api.Edge{{}} },
		"the root beside it":               func(g *api.Graph) { g.Nodes[2].Context, g.Nodes[2].Edges = []api.Pin{{}}, []api.Edge{{}} },
		"a context of another version":     func(g *api.Graph) { g.Nodes[5].Context = pins("b 2") },
	}
	for what, to := range map[string]int{"place 0": 0, "place -1": -1, "the least place": math.MinInt, "one past the end": 6, "far past the end": math.MaxInt, "a node of another name": 2} {
		l["an edge to "+what] = func(g *api.Graph) { g.Nodes[0].Edges[0].To = to }
		l["an edge of the last node to "+what] = func(g *api.Graph) { g.Nodes[5].Edges = []api.Edge{{Label: "a", To: to}, {Label: "b", To: 2}} }
	}
	for _, name := range append(noNames(), "") {
		l[fmt.Sprintf("a label %.20q", name)] = func(g *api.Graph) { g.Nodes[2].Edges = []api.Edge{{Label: name, To: 1}} }
		l[fmt.Sprintf("a node named %.20q with an edge to it", name)] = func(g *api.Graph) {
			g.Nodes = append(g.Nodes, api.Node{Name: name})
			g.Nodes[2].Edges = []api.Edge{{Label: name, To: 6}}
		}
	}
	for _, v := range noVersions() {
		l[fmt.Sprint("a node of version ", v)] = func(g *api.Graph) { g.Nodes[4].Version = v }
	}
	return l
}

// P21.2: graphs that can't be placed, or have a node that the catalog has not; the same graph without the fault can be.
func TestGraphsThatCannotBePlaced(t *testing.T) {
	x := upright()
	x.stands(t, "without a fault", "a 1", "a/p 3", "b 2", "p 3")
	for what, change := range noGraphs() {
		y := x.changed(change)
		y.fails(t, what, api.ErrGraph)
		y.within(1, 1).fails(t, what+", in the least room", api.ErrGraph)
		y.liking().fails(t, what+", with an old tree", api.ErrGraph)
		y.behind(api.Tree{}).fails(t, what+", with an old tree that may not be", api.ErrTree)
		y.within(0, 1024).behind(api.Tree{}).fails(t, what+", without Dirs", api.ErrArg)
	}
	for i := range x.g.Nodes[1:] {
		// The catalog has all of the nodes' packages but one.
		y := x
		y.c = catalog.New()
		n := x.g.Nodes[i+1]
		for _, p := range x.c.All() {
			if p.Name != n.Name || p.Version != n.Version {
				y.c.Put(p)
			}
		}
		y.fails(t, fmt.Sprintf("node %d is not there", i+1), api.ErrGraph)
	}
	if got, e := around(row(128)).asRun(t, "a row"); e != api.OK || len(got.Dirs) != 128 {
		t.Errorf("as many nodes as may be: %d directories, error %d", len(got.Dirs), e)
	}
	// The catalog has room for the packages of one more.
	around(row(129)).fails(t, "one node more than may be", api.ErrGraph)
	y := standing("root", "a 1")
	y.g.Nodes = append(slices.Repeat(y.g.Nodes[1:], 128), y.g.Nodes[1])
	y.g.Nodes[0] = api.Node{}
	y.fails(t, "one node more than may be, of one package", api.ErrGraph)
	y.g.Nodes = y.g.Nodes[:128]
	y.stands(t, "as many nodes as may be, of one package")
	placed{c: x.c, l: widest}.fails(t, "no graph", api.ErrGraph)
}

// P21.2: graphs that are no solution, and can be placed: nodes that are alike or not reached, and packages that want something else.
func TestNoSolutions(t *testing.T) {
	x := standing("root: a 1", "a 1: c 3", "a 1: c 3", "c 1", "d 1 with c 1: c 3")
	x.stands(t, "nodes that are alike, or not reached", "a 1", "c 3")
	x.c = published("a 1.0.0; needs q *; beside r *", "c 1.0.0; likes z 2.0.0", "d 1.0.0")
	x.stands(t, "packages that want something else", "a 1", "c 3")
	standing("root").stands(t, "the root alone")
	standing("root: a 1, b 2", "a 1: x 3", "b 1: x 4", "x 1", "x 1").stands(t, "two nodes that are alike", "a 1", "b 2", "b/x 4", "x 3")
	// What a context has is not found, or another node is, or it comes too late.
	standing("root: p 1", "p 1 with q 1: q 2", "q 1").fails(t, "nothing is found", api.ErrGraph)
	standing("root: p 1, q 3", "p 1 with q 1: q 2", "q 1", "q 2").fails(t, "another version is found", api.ErrGraph)
	standing("root: p 1, q 3", "p 1 with q 1: q 2", "q 1", "q 1").fails(t, "a node that is alike is found", api.ErrGraph)
	standing("root: a 1, p 2", "a 1: b 4", "p 1 with q 1: q 3", "q 1", "b 1: q 3").fails(t, "it is not there yet", api.ErrGraph)
	standing("root: a 1, p 2, q 5", "a 1: q 3", "p 1 with q 1: q 3", "q 1", "b 1", "q 2").fails(t, "it stands in a", api.ErrGraph)
	standing("root: a 1, p 2", "a 1: q 3", "p 1 with q 1: q 3", "q 1").stands(t, "beside it by chance", "a 1", "p 2", "q 3")
	// What the context lacks is told when its turn comes.
	y := standing("root: p 1", "p 1 with z 1: a 2, z 3", "a 1", "z 1")
	y.within(1, 1024).fails(t, "the context ahead of a", api.ErrGraph)
	z := standing("root: a 1, p 2", "a 1", "p 1 with z 1: z 3", "z 1")
	z.within(1, 1024).fails(t, "no room for p ahead of what it lacks", api.ErrTooDeep)
	z.within(2, 1024).fails(t, "what p lacks", api.ErrGraph)
}

// P21.2: what leads to nodes without a context is found, or placed at a spot: where the name is free, and no settled edge would find it.
func TestAlone(t *testing.T) {
	standing("root: a 1", "a 1: b 2", "b 1: c 3", "c 1").stands(t, "a row", "a 1", "b 2", "c 3")
	standing("root: a 1, b 2", "a 1: x 3", "b 1: x 4", "x 1", "x 2").stands(t, "a comes first", "a 1", "b 2", "b/x 4", "x 3")
	standing("root: a 1, z 2", "a 1: b 3", "z 1: x 4", "b 1: x 5", "x 1", "x 2").stands(t, "z was placed ahead of b", "a 1", "b 3", "b/x 5", "x 4", "z 2")
	standing("root: a 1", "a 1: a 2", "a 2").stands(t, "its name in another version", "a 1", "a/a 2")
	standing("root: a 1, x 2, y 5", "a 1: x 3", "x 1", "x 2: y 4", "y 1", "y 2").stands(t, "to one between", "a 1", "a/x 3", "a/y 4", "x 2", "y 5")
	standing("root: a 1, x 2, y 5", "a 1: x 3, y 6", "x 1", "x 2: y 4", "y 1", "y 2", "y 3").stands(t, "into itself", "a 1", "a/x 3", "a/x/y 4", "a/y 6", "x 2", "y 5")
	standing("root: a 1, x 2, z 6", "a 1: x 3, y 5", "x 1", "x 2: y 4", "y 1", "y 2", "z 1: y 4").liking("a 1", "a/y 5").stands(t, "free further up", "a 1", "a/x 3", "a/x/y 4", "a/y 5", "x 2", "y 4", "z 6")
	standing("root: a 1, b 2, x 4", "a 1: b 2, x 5", "b 1", "b 2", "x 1", "x 2: b 3").stands(t, "settled of a itself", "a 1", "a/x 5", "a/x/b 3", "b 2", "x 4")
	standing("root: a 1, b 2, x 4, y 6", "a 1: x 5, y 7", "b 1", "b 2", "x 1", "x 2: b 2", "y 1", "y 2: b 3").stands(t, "settled of one in a", "a 1", "a/x 5", "a/y 7", "a/y/b 3", "b 2", "x 4", "y 6")
	standing("root: a 1, b 2, x 4, y 6", "a 1: x 5, y 7", "b 1", "b 2", "x 1", "x 2: b 3", "y 1", "y 2: b 2").stands(t, "of one that comes later", "a 1", "a/b 3", "a/x 5", "a/y 7", "a/y/b 2", "b 2", "x 4", "y 6")
	standing("root: a 1, c 2, d 4", "a 1: c 3, d 5", "c 1", "c 2: a 1", "d 1", "d 2: a 6", "a 2").stands(t, "settled with the spot itself", "a 1", "a/c 3", "a/d 5", "a/d/a 6", "c 2", "d 4")
	standing("root: a 1, c 3", "a 1: b 2", "b 1", "c 1: b 4", "b 2").liking("a 1", "a/b 2").stands(t, "settled with one in a", "a 1", "a/b 2", "b 4", "c 3")
	deep := []string{"root: a 1, b 2, v 8, w 4, y 6", "a 1: w 5, y 7", "b 1", "b 2", "w 1", "w 2: v 9", "y 1", "y 2: z 10", "v 1", "v 2: b 2", "z 1: b 3"}
	old := []string{"a 1", "a/w 5", "a/w/v 9", "a/y 7", "a/y/z 10"}
	standing(deep...).liking(old...).stands(t, "settled of one deep in a", "a 1", "a/w 5", "a/w/v 9", "a/y 7", "a/y/b 3", "a/y/z 10", "b 2", "v 8", "w 4", "y 6")
	deep[9] = "v 2"
	standing(deep...).liking(old...).stands(t, "settled of none", "a 1", "a/b 3", "a/w 5", "a/w/v 9", "a/y 7", "a/y/z 10", "b 2", "v 8", "w 4", "y 6")
}

// P21.2: with an old tree the spots come first at which it has the same package.
func TestOld(t *testing.T) {
	x := placing()
	x.liking().stands(t, "the root alone", "a 1", "b 3", "c 2", "c/b 4")
	x.liking("a 1", "a/b 3").stands(t, "b of a in a", "a 1", "a/b 3", "b 4", "c 2")
	x.liking("a 1", "a/b 3", "b 3").stands(t, "b of a at both", "a 1", "b 3", "c 2", "c/b 4")
	x.liking("a 1", "a/b 4").stands(t, "another b in a", "a 1", "b 3", "c 2", "c/b 4")
	x.liking("c 2", "c/b 3").stands(t, "b of a in c", "a 1", "b 3", "c 2", "c/b 4")
	x.liking("a 1", "b 3", "c 2", "c/b 4").stands(t, "its own tree", "a 1", "b 3", "c 2", "c/b 4")
	y := x.liking("a 1", "a/b 3")
	for i, text := range []string{"needs", "beside", "likes"} {
		other := copied(*y.old)
		other.Dirs[2].Pack = packed("b 1.0.0; " + text + " q *")
		x.behind(other).stands(t, fmt.Sprint("a package that wants something else ", i), "a 1", "b 3", "c 2", "c/b 4")
	}
	other := copied(*y.old)
	other.Dirs[1].Node, other.Dirs[2].Node = 1000, 7
	x.behind(other).stands(t, "other nodes", "a 1", "a/b 3", "b 4", "c 2")
	// Just at each level one, and of several the one nearest to the root.
	base := standing("root: a 1, n 2", "a 1: n 3", "n 1", "n 2: n 4", "n 3: n 5", "n 4: x 6", "x 1")
	levels := []string{"", "a/", "a/n/", "a/n/n/", "a/n/n/n/"}
	for i, level := range levels {
		row := []string{"a 1", "a/n 3", "a/n/n 4", "a/n/n/n 5"}
		for _, lower := range levels[i:] {
			liked := append(slices.Clone(row), level+"x 6")
			if lower != level {
				liked = append(liked, lower+"x 6")
			}
			got, e := base.liking(liked...).asRun(t, level)
			if at := tree.Find(got, strings.Split(level+"x", "/")); e != api.OK || at < 0 || got.Dirs[at].Node != 6 || len(got.Dirs) != 7 {
				t.Errorf("liked at %q and %q: %s, error %d", level, lower, flat(got), e)
			}
		}
	}
	// What is liked is no spot, or is found further up.
	standing("root: a 1, b 2, x 4", "a 1: b 2, x 5", "b 1", "b 2", "x 1", "x 2: b 3").liking("a 1", "a/b 3").stands(t, "no spot", "a 1", "a/x 5", "a/x/b 3", "b 2", "x 4")
	standing("root: a 1, b 2", "a 1: b 2", "b 1").liking("a 1", "a/b 2").stands(t, "what is found", "a 1", "b 2")
}

// P21.2: what leads to nodes with a context is found, if it sees the same; else it is placed in the directory's own modules.
func TestBeside(t *testing.T) {
	standing("root: p 1, q 2", "p 1 with q 1: q 2", "q 1").stands(t, "beside it", "p 1", "q 2")
	standing("root: p 1, q 2", "p 1 with p 1, q 1: p 1, q 2", "q 1 with p 1, q 1: p 1, q 2").stands(t, "each beside the other one", "p 1", "q 2")
	standing("root: a 1, p 2, q 3", "a 1: p 2, q 3", "p 1 with q 1: q 3", "q 1").stands(t, "found, and sees the same", "a 1", "p 2", "q 3")
	standing("root: a 1, q 3", "a 1: p 2, q 3", "p 1 with q 1: q 3", "q 1").stands(t, "nothing is found", "a 1", "a/p 2", "q 3")
	standing("root: a 1, p 4, q 3", "a 1: p 2, q 3", "p 1 with q 1: q 3", "q 1", "p 2 with q 1: q 3").stands(t, "another version is found", "a 1", "a/p 2", "p 4", "q 3")
	standing("root: a 1, p 4, q 3", "a 1: p 2, q 5", "p 1 with q 2: q 5", "q 1", "p 1 with q 1: q 3", "q 2").stands(t, "another context is found", "a 1", "a/p 2", "a/q 5", "p 4", "q 3")
	standing("root: a 1, p 2, q 3, x 6", "a 1: q 5, x 4", "p 1 with q 1: q 3", "q 1", "x 2: p 2, q 3", "q 2", "x 1").stands(t, "it sees another directory", "a 1", "a/q 5", "a/x 4", "a/x/p 2", "a/x/q 3", "p 2", "q 3", "x 6")
	standing("root: a 1, p 2, q 3, r 7, x 6", "a 1: q 5, x 4", "p 1 with q 1, r 1: q 3, r 7", "q 1", "x 2: p 2, q 3, r 7", "q 2", "x 1", "r 1").stands(t, "one of two names", "a 1", "a/q 5", "a/x 4", "a/x/p 2", "a/x/q 3", "p 2", "q 3", "r 7", "x 6")
	standing("root: a 1, p 2, q 3", "a 1: p 2", "p 1 with q 1: q 3", "q 1").stands(t, "a name without an edge", "a 1", "a/p 2", "p 2", "q 3")
	standing("root: a 1, p 2, q 3, z 4", "a 1: p 2, q 3, z 4", "p 1 with q 1, z 1: q 3, z 4", "q 1", "z 1 with q 1: q 3").stands(t, "a name that is not settled yet", "a 1", "a/p 2", "p 2", "q 3", "z 4")
	standing("root: a 1, p 2, q 3, z 4", "a 1: p 2, q 3, z 4", "p 1 with q 1: q 3", "q 1", "z 1 with p 1, q 1: p 2, q 3").stands(t, "a name that is", "a 1", "p 2", "q 3", "z 4")
	// Edges of the context come first, then those to nodes without one, then those to nodes with one.
	standing("root: a 1, b 2, z 3", "a 1 with z 1: x 4, z 3", "b 1: x 5", "z 1", "x 1", "x 2").stands(t, "b ahead of a", "a 1", "a/x 4", "b 2", "x 5", "z 3")
	standing("root: a 1, b 2, z 3", "a 1 with z 1: x 4, z 3", "b 1 with z 1: x 5, z 3", "z 1", "x 1", "x 2").stands(t, "both with a context", "a 1", "b 2", "b/x 5", "x 4", "z 3")
	standing("root: a 1, q 2, r 3, x 6", "a 1: q 2, r 3, x 5", "q 1 with r 1: r 3", "r 1", "z 1", "x 2 with q 1, r 1: q 2, r 3", "x 1").stands(t, "a context with a context", "a 1", "a/x 5", "q 2", "r 3", "x 6")
}

// P21.2: graphs that go round end: all is found in the end, or there is no more room.
func TestRound(t *testing.T) {
	standing("root: a 1, c 3", "a 1: b 2", "b 1: a 1", "c 1: b 4", "b 2: a 5", "a 2: b 4").stands(t, "two rounds", "a 1", "b 2", "c 3", "c/a 5", "c/b 4")
	ring := standing("root: a 1", "a 1: b 2", "b 1: a 3", "a 2: b 4", "b 2: a 1")
	ring.fails(t, "a ring of versions", api.ErrTooLong)
	ring.within(256, 40).fails(t, "a ring of versions in a short path", api.ErrTooLong)
	ring.within(7, 1024).fails(t, "a ring of versions in few directories", api.ErrTooDeep)
}

// P21.2: of two limits that are passed by one directory ErrTooLong comes first, of two directories the one that is placed first.
func TestErrorsOfPlaces(t *testing.T) {
	two := standing("root: a 1, bb 2", "a 1", "bb 1")
	two.within(1, 10).fails(t, "too long ahead of too many", api.ErrTooLong)
	two.within(1, 11).fails(t, "too many", api.ErrTooDeep)
	two.within(2, 10).fails(t, "too long", api.ErrTooLong)
	standing("root: a 1, b 2, cc 3", "a 1", "b 1", "cc 1").within(1, 10).fails(t, "too many ahead of a longer one", api.ErrTooDeep)
}

// P21.2: directories stand by the texts of their paths, byte by byte, each with its node's number and all that its package has.
func TestToldTree(t *testing.T) {
	// `-` stands ahead of `/`, digits and letters behind it.
	x := standing("root: a 1, a- 2, a0 3, aa 4, b 5", "a 1: b 6", "a- 1: b 6", "a0 1: b 6", "aa 1: b 6", "b 1", "b 2")
	x.stands(t, "names that begin alike", "a 1", "a- 2", "a-/b 6", "a/b 6", "a0 3", "a0/b 6", "aa 4", "aa/b 6", "b 5")
	standing("root: z 1", "z 1: y 2", "y 1: x 3", "x 1: w 4", "w 1").stands(t, "placed the other way round", "w 4", "x 3", "y 2", "z 1")
	y := standing("root: a 1", "a 1: b 2", "b 1")
	y.c = published("a 1.0.0; needs b *; needs c 1.0.0 || 3.0.0; beside d ^2.0.0; likes e *", "b 1.0.0; likes a 1.0.0")
	got, _ := y.asRun(t, "packages that have all")
	for i, want := range []api.Package{{}, packed("a 1.0.0; needs b *; needs c 1.0.0 || 3.0.0; beside d ^2.0.0; likes e *"), packed("b 1.0.0; likes a 1.0.0")} {
		if d := got.Dirs[i]; !pack.Same(d.Pack, want) || d.Node != i || len(d.Path) != min(i, 1) {
			t.Errorf("directory %d: %s", i, flat(d))
		}
	}
}

// crowded is a graph of x 1 and y 1 at the root, and of so many nodes that have an x 2 in them each; some of these have a y 2, too.
func crowded(count, some int) api.Graph {
	g := drawn("root: x 1, y 2", "x 1", "y 1", "x 2", "y 2")
	var l []api.Edge
	for i, name := range names("d", count) {
		led := edges("x 3")
		if i < some {
			led = edges("x 3, y 4")
		}
		l = append(l, api.Edge{Label: name, To: len(g.Nodes)})
		g.Nodes = append(g.Nodes, api.Node{Name: name, Version: version("1"), Edges: led})
	}
	g.Nodes[0].Edges = append(l, g.Nodes[0].Edges...)
	return g
}

// P21.2: just as many directories, and just as long a path, as may be; and one more.
func TestMostPlaces(t *testing.T) {
	for more, want := range map[int]api.Errno{0: api.OK, 1: api.ErrTooDeep} {
		if got, e := around(crowded(85, 84+more)).asRun(t, "a crowd"); e != want || e == api.OK && len(got.Dirs) != 257 {
			t.Errorf("256 directories and %d: %d, error %d", more, len(got.Dirs), e)
		}
	}
	for bytes, count := range map[int]int{7: 64, 1: 102, 16: 40} {
		g := drawn("root")
		name := strings.Repeat("n", bytes)
		for i := range count {
			g.Nodes[i].Edges = []api.Edge{{Label: name, To: i + 1}}
			g.Nodes = append(g.Nodes, api.Node{Name: name, Version: api.Version{Major: i}})
		}
		length := count * (len("/modules/") + bytes)
		x := around(g)
		if got, e := x.within(count, length).asRun(t, "a deep row"); e != api.OK || len(got.Dirs) != count+1 {
			t.Errorf("%d bytes: %d directories, error %d", length, len(got.Dirs), e)
		}
		x.within(count, length-1).fails(t, "a byte less", api.ErrTooLong)
	}
}

// besides is a graph of nodes that need all of those without a context beside them, and of versions of x, each in the one ahead of it, that need all of these: many lookups, from deep down.
func besides(alone, beside, row int) api.Graph {
	g := drawn("root")
	var led, all []api.Edge
	var context []api.Pin
	for i, n := range names("q", alone) {
		led, context = append(led, api.Edge{Label: n, To: 1 + i}), append(context, api.Pin{Name: n, Version: version("1")})
		g.Nodes = append(g.Nodes, api.Node{Name: n, Version: version("1")})
	}
	for _, n := range names("p", beside) {
		all = append(all, api.Edge{Label: n, To: len(g.Nodes)})
		g.Nodes = append(g.Nodes, api.Node{Name: n, Version: version("1"), Context: context, Edges: led})
	}
	all = append(all, led...)
	first := len(g.Nodes)
	for i := range row {
		to := append(slices.Clone(all), api.Edge{Label: "x", To: first + i + 1})
		g.Nodes = append(g.Nodes, api.Node{Name: "x", Version: api.Version{Major: i}, Edges: to[:len(all)+min(1, row-1-i)]})
	}
	g.Nodes[0].Edges = append(slices.Clone(all), api.Edge{Label: "x", To: first})
	return g
}

// R1: graphs as great as may be are placed soon enough, and greater ones are refused.
func TestGreatGraphs(t *testing.T) {
	for _, q := range [][3]int{{42, 42, 43}, {13, 13, 101}, {60, 60, 7}} {
		x := around(besides(q[0], q[1], q[2]))
		got, e := x.asRun(t, "a great graph")
		if e != api.OK || len(got.Dirs) != len(x.g.Nodes) {
			t.Errorf("%v: %d directories, error %d", q, len(got.Dirs), e)
		}
		if again, e := x.behind(got).asRun(t, "a great graph again"); e != api.OK || !sameTree(again, got) {
			t.Errorf("%v behind itself: error %d", q, e)
		}
	}
	const great = 1 << 17
	long := strings.Repeat("a", 1<<24)
	x := upright()
	for what, change := range map[string]func(g *api.Graph){
		"many nodes":              func(g *api.Graph) { g.Nodes = slices.Repeat(g.Nodes, great) },
		"many edges":              func(g *api.Graph) { g.Nodes[1].Edges = slices.Repeat(g.Nodes[1].Edges, great) },
		"many edges of no nodes":  func(g *api.Graph) { g.Nodes[1].Edges = manyEdges(great) },
		"a great context":         func(g *api.Graph) { g.Nodes[3].Context = slices.Repeat(g.Nodes[3].Context, great) },
		"a context of no nodes":   func(g *api.Graph) { g.Nodes[3].Context = manyPins(great) },
		"a great name":            func(g *api.Graph) { g.Nodes[2].Name = long },
		"a great label":           func(g *api.Graph) { g.Nodes[2].Edges = []api.Edge{{Label: long, To: 1}} },
		"a great name in context": func(g *api.Graph) { g.Nodes[2].Context = []api.Pin{{Name: long}} },
	} {
		x.changed(change).fails(t, what, api.ErrGraph)
	}
	x.behind(wide(great)).fails(t, "a great old tree", api.ErrTree)
}

func manyEdges(count int) []api.Edge {
	var l []api.Edge
	for i := range count {
		l = append(l, api.Edge{Label: fmt.Sprintf("n%07d", i), To: 1})
	}
	return l
}

func manyPins(count int) []api.Pin {
	var l []api.Pin
	for i := range count {
		l = append(l, api.Pin{Name: fmt.Sprintf("n%07d", i)})
	}
	return l
}
