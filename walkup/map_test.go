package walkup_test

import (
	"fmt"
	"math"
	"slices"
	"testing"

	"halyard/api"
	"halyard/tree"
	"halyard/walkup"
)

// twoB is a tree and its graph: a 1 has b 2 in its own modules, all else finds b 1 in the root's.
func twoB() (api.Tree, api.Graph) {
	x := grown("a:1", "a b:2", "b:1", "c:1")
	g := drawn("root: a 1, b 3, c 4", "a 1: b 2, c 4", "b 2: a 1", "b 1", "c 1: b 3")
	return x, g
}

// P13.3: of each directory its node.
func TestMap(t *testing.T) {
	x, g := twoB()
	maps(t, x, g, 0, 1, 2, 3, 4)
	maps(t, grown(), drawn("root"), 0)
	maps(t, grown("a"), drawn("root: a 1", "a 1"), 0, 1)
	// Nodes in another order than directories.
	maps(t, x, drawn("root: a 4, b 2, c 1", "c 1: b 2", "b 1", "b 2: a 4", "a 1: b 3, c 1"), 0, 4, 3, 2, 1)
	// A node that is found in several directories.
	maps(t, grown("a", "a b:2", "b", "c", "c b:2"), drawn("root: a 1, b 2, c 3", "a 1: b 4", "b 1", "c 1: b 4", "b 2: a 1"), 0, 1, 4, 2, 3, 4)
	// A ring, and a package that needs itself.
	maps(t, grown("a", "b"), drawn("root: a 1", "a 1: a 1, b 2", "b 1: a 1, b 2"), 0, 1, 2)
	// Edges in any order, one of them twice.
	maps(t, grown("a", "b"), drawn("root: b 2, a 1, b 2, b 2", "a 1", "b 1"), 0, 1, 2)
	// What is found first is found from the inner one later.
	maps(t, grown("b", "c", "c d", "d:2"), drawn("root: c 1", "c 1: b 3, d 2", "d 1: b 3, c 1, d 2", "b 1: d 4", "d 2"), 0, 3, 1, 2, 4)
}

// P13.3: directories that get no node.
func TestMapNotReached(t *testing.T) {
	x, g := twoB()
	maps(t, x, drawn("root"), 0, -1, -1, -1, -1)
	maps(t, x, drawn("root: c 1", "c 1"), 0, -1, -1, -1, 1)
	maps(t, x, drawn("root: c 1", "c 1: b 2", "b 1"), 0, -1, -1, 2, 1)
	g.Nodes[1].Edges = nil
	maps(t, x, g, 0, 1, -1, 3, 4)
	// Behind one that is not reached stand some that could be.
	maps(t, grown("a", "b", "a b", "a b c"), drawn("root: b 2", "a 1: b 3", "b 1", "b 1: c 4", "c 1"), 0, -1, 2, -1, -1)
	// The root stands in no modules: no lookup finds it.
	maps(t, grown("a"), drawn("root: a 1", "a 1: a 1"), 0, 1)
}

// P13.3: edges of a node that is not reached may ask for what is not there, but must lead to a place above 0.
func TestMapUnreachedEdges(t *testing.T) {
	x := grown("a", "b")
	maps(t, x, drawn("root: a 1", "a 1", "z 9: y 3, b 1, a 2", "A 7: x 2"), 0, 1, -1)
	maps(t, x, drawn("root", "z 9: z 1, A 1, a 1"), 0, -1, -1)
	for _, to := range []int{0, -1, 3, 4, math.MinInt, math.MaxInt} {
		g := drawn("root: a 1", "a 1", "z 9: z 1")
		g.Nodes[2].Edges[0].To = to
		refuses(t, fmt.Sprint("an edge to ", to, " that is not reached"), x, g, api.ErrGraph)
	}
}

// P13.3: graphs without nodes, and edges that lead to no place above 0, wherever they stand.
func TestMapGraphs(t *testing.T) {
	x, g := twoB()
	for _, y := range []api.Tree{x, grown(), grown("a")} {
		refuses(t, "no nodes", y, api.Graph{}, api.ErrGraph)
		refuses(t, "no nodes", y, api.Graph{Nodes: []api.Node{}}, api.ErrGraph)
	}
	for i, n := range g.Nodes {
		for j := range n.Edges {
			for _, to := range []int{0, -1, -2, 5, 6, 100, math.MinInt, math.MinInt32, math.MaxInt32, math.MaxInt} {
				other := cloneGraph(g)
				other.Nodes[i].Edges[j].To = to
				refuses(t, fmt.Sprint("an edge to ", to), x, other, api.ErrGraph)
			}
		}
	}
	// The last place, and one past it.
	maps(t, grown("a"), drawn("root: a 2", "x 1", "a 1"), 0, 2)
	refuses(t, "an edge past the end", grown("a"), drawn("root: a 3", "x 1", "a 1"), api.ErrGraph)
	// A root that has the package of what is found is still the root.
	root := drawn("a 1: a 1", "a 1")
	maps(t, grown("a"), root, 0, 1)
	root.Nodes[0].Edges[0].To = 0
	refuses(t, "an edge to the root", grown("a"), root, api.ErrGraph)
}

// P13.3: a graph is not asked whether it is a solution, or has the form of one.
func TestMapAnyGraph(t *testing.T) {
	x := grown("a", "b")
	g := drawn("Root 7: b 2, a 1, b 2", "a 1", "b 1", "A 1")
	g.Nodes[1].Context = []api.Pin{{Name: "z"}, {Name: "A", Version: version(-1, 0, 0)}, {Name: "z"}}
	g.Nodes[3].Version = version(-1, 1000, math.MaxInt)
	maps(t, x, g, 0, 1, 2)
	// Two nodes that are alike.
	maps(t, x, drawn("root: a 2", "a 1", "a 1"), 0, 2, -1)
	// More nodes than a solution may have.
	for range 1000 {
		g.Nodes = append(g.Nodes, api.Node{Edges: edges("a 1")})
	}
	maps(t, x, g, 0, 1, 2)
}

// P13.3: a lookup that finds nothing.
func TestMapNothingFound(t *testing.T) {
	x, g := twoB()
	for i, n := range g.Nodes {
		for j := range n.Edges {
			for _, label := range append(noNames(), "z", "aa", "modules") {
				other := cloneGraph(g)
				other.Nodes[i].Edges[j].Label = label
				refuses(t, "a label that is not found", x, other, api.ErrTree)
			}
		}
		other := cloneGraph(g)
		other.Nodes[i].Edges = append(other.Nodes[i].Edges, api.Edge{Label: "z", To: 4})
		refuses(t, "one edge too many", x, other, api.ErrTree)
	}
	refuses(t, "nothing in the tree", grown(), drawn("root: a 1", "a 1"), api.ErrTree)
	refuses(t, "what stands too deep", grown("a", "a b"), drawn("root: a 1, b 2", "a 1", "b 1"), api.ErrTree)
	refuses(t, "what stands beside the way", grown("a", "a b", "c"), drawn("root: c 1", "c 1: b 2", "b 1"), api.ErrTree)
	// A label that may not be, with a node of that name.
	refuses(t, "a name that may not be", grown("a"), drawn("root: A 1", "A 1"), api.ErrTree)
}

// P13.3: a lookup that finds another name or version.
func TestMapOthersFound(t *testing.T) {
	x, g := twoB()
	for i := 1; i < len(g.Nodes); i++ {
		other := cloneGraph(g)
		other.Nodes[i].Name = "z"
		refuses(t, "another name", x, other, api.ErrTree)
		other.Nodes[i].Name = ""
		refuses(t, "no name", x, other, api.ErrTree)
		for _, v := range []api.Version{version(9, 0, 0), version(g.Nodes[i].Version.Major, 1, 0), version(g.Nodes[i].Version.Major, 0, 1), {}} {
			other := cloneGraph(g)
			other.Nodes[i].Version = v
			refuses(t, "another version", x, other, api.ErrTree)
		}
		packs := clone(x)
		packs.Dirs[i].Pack.Version.Patch++
		refuses(t, "another version of the directory", packs, g, api.ErrTree)
	}
	// An edge by one name to a node of another one.
	refuses(t, "a label that is another's name", grown("a", "b"), drawn("root: a 2", "a 1", "b 1"), api.ErrTree)
	refuses(t, "two names, changed for one another", grown("a", "b"), drawn("root: a 2, b 1", "a 1", "b 1"), api.ErrTree)
	// The nearer one is found, though the one further up would do.
	refuses(t, "a nearer one", grown("a", "b", "a b:2"), drawn("root: a 1, b 2", "a 1: b 2", "b 1"), api.ErrTree)
	refuses(t, "one further up", grown("a", "b", "a b:2"), drawn("root: a 1, b 2", "a 1", "b 2"), api.ErrTree)
}

// P13.3: a directory that is to be two nodes.
func TestMapTwoNodes(t *testing.T) {
	x := grown("a", "b")
	refuses(t, "two nodes at once", x, drawn("root: a 1, a 2", "a 1", "a 1"), api.ErrTree)
	refuses(t, "another node later", x, drawn("root: a 1, b 2", "a 1: b 2", "b 1: b 3", "b 1"), api.ErrTree)
	refuses(t, "another node from another one", x, drawn("root: a 1, b 2", "a 1: b 3", "b 1", "b 1"), api.ErrTree)
	refuses(t, "another node in a ring", x, drawn("root: a 1", "a 1: b 2", "b 1: a 3", "a 1: b 2"), api.ErrTree)
	// Its own directory, met by another node's edges.
	refuses(t, "another node for itself", x, drawn("root: a 1", "a 1: a 2", "a 1"), api.ErrTree)
	maps(t, x, drawn("root: a 1", "a 1: a 1", "a 1: a 1"), 0, 1, -1)
	maps(t, grown("a", "b", "a b"), drawn("root: a 1, b 2", "a 1: b 3", "b 1", "b 1"), 0, 1, 2, 3)
}

// noTrees is trees that may not be.
func noTrees() map[string]api.Tree {
	changed := func(change func(x *api.Tree)) api.Tree {
		x, _ := twoB()
		change(&x)
		return x
	}
	return map[string]api.Tree{
		"no directories":        {},
		"no root":               {Dirs: grown("a").Dirs[1:]},
		"a root with a node":    changed(func(x *api.Tree) { x.Dirs[0].Node = 1 }),
		"a root with a package": changed(func(x *api.Tree) { x.Dirs[0].Pack.Name = "a" }),
		"a path twice":          changed(func(x *api.Tree) { x.Dirs = append(x.Dirs, x.Dirs[1]) }),
		"the root twice":        changed(func(x *api.Tree) { x.Dirs = append(x.Dirs, api.Dir{}) }),
		"no directory above":    changed(func(x *api.Tree) { x.Dirs = append(x.Dirs, dir(1, "z", "b")) }),
		"one above behind it":   changed(func(x *api.Tree) { x.Dirs[1], x.Dirs[2] = x.Dirs[2], x.Dirs[1] }),
		"another package":       changed(func(x *api.Tree) { x.Dirs[4].Pack.Name = "b" }),
		"a version too great":   changed(func(x *api.Tree) { x.Dirs[4].Pack.Version.Minor = 1000 }),
		"a node of 0":           changed(func(x *api.Tree) { x.Dirs[2].Node = 0 }),
		"a node below 0":        changed(func(x *api.Tree) { x.Dirs[2].Node = -1 }),
		"a name that is none":   changed(func(x *api.Tree) { x.Dirs = append(x.Dirs, dir(1, "A")) }),
		"a path too long":       chain(slices.Repeat([]string{"a"}, 103)...),
		"too many":              wide(257),
	}
}

// wide is a tree of so many directories beside the root.
func wide(count int) api.Tree {
	x := grown()
	for i := range count {
		x.Dirs = append(x.Dirs, dir(1, fmt.Sprintf("n%d", i)))
	}
	return x
}

// P13.3: a tree that may not be, ahead of a graph that may not be, ahead of lookups.
func TestMapErrorsInOrder(t *testing.T) {
	right, g := twoB()
	for what, x := range noTrees() {
		if tree.Check(x) != api.ErrTree {
			t.Fatal(what)
		}
		refuses(t, what, x, g, api.ErrTree)
		refuses(t, what+", the root alone", x, drawn("root"), api.ErrTree)
		refuses(t, what+", no nodes", x, api.Graph{}, api.ErrTree)
		refuses(t, what+", an edge to 0", x, drawn("root: a 0"), api.ErrTree)
	}
	refuses(t, "an edge to no place ahead of a lookup that finds nothing", right, drawn("root: a 9, z 1", "z 1"), api.ErrGraph)
	refuses(t, "an edge to no place behind a lookup that finds nothing", right, drawn("root: z 1, a 9", "z 1"), api.ErrGraph)
	refuses(t, "an edge to no place of a node behind another version", right, drawn("root: a 1", "a 9: b 0"), api.ErrGraph)
	refuses(t, "an edge to no place behind a directory of two nodes", right, drawn("root: a 1, a 2", "a 1", "a 1: b -1"), api.ErrGraph)
}

// P13.3: which node a directory has by itself is not looked at, nor what its package wants.
func TestMapLooksAtNothingElse(t *testing.T) {
	x, g := twoB()
	for i := 1; i < len(x.Dirs); i++ {
		x.Dirs[i].Node = []int{5, 1, math.MaxInt, 7, 1}[i]
		x.Dirs[i].Pack.Deps, x.Dirs[i].Pack.Peers = wanted("y"), wanted("z")
	}
	maps(t, x, g, 0, 1, 2, 3, 4)
}

// P13.3: as the model: trees that may be with graphs made of them, graphs that differ from these a little, and trees that may not be.
func TestMapAsModel(t *testing.T) {
	s := source(5)
	met := map[api.Errno]int{}
	reached, not := 0, 0
	for i := 0; i < 3000 && !t.Failed(); i++ {
		x := s.someTree()
		g := s.someGraph(x)
		met[mapsAsModel(t, x, g)]++
		l, _ := walkup.Map(x, g)
		for i, n := range l {
			switch n {
			case i:
				reached++
			case -1:
				not++
			default:
				t.Fatalf("%d is %d in %s", i, n, flat(x))
			}
		}
		for range 4 {
			g = s.spoilt(g)
			met[mapsAsModel(t, x, g)]++
		}
		met[mapsAsModel(t, s.thinned(x), g)]++
	}
	if met[api.OK] < 3000 || met[api.ErrTree] < 3000 || met[api.ErrGraph] < 500 || reached < 5000 || not < 1000 {
		t.Error("too few of a kind:", met, reached, not)
	}
}

// P13.3: graphs whose nodes have several directories each are as the model tells.
func TestMapSharedNodes(t *testing.T) {
	s := source(6)
	met, shared := map[api.Errno]int{}, 0
	for i := 0; i < 20000 && !t.Failed(); i++ {
		x := s.someTree()
		// One node for each package: what its first directory finds is what each of them has to find.
		g := drawn("root")
		place := map[string]int{}
		for i, d := range x.Dirs {
			key := fmt.Sprint(d.Pack.Name, d.Pack.Version)
			if place[key] == 0 && i > 0 {
				place[key] = len(g.Nodes)
				g.Nodes = append(g.Nodes, api.Node{Name: d.Pack.Name, Version: d.Pack.Version})
			}
		}
		done := map[int]bool{}
		for i, d := range x.Dirs {
			n := place[fmt.Sprint(d.Pack.Name, d.Pack.Version)]
			if done[n] {
				continue
			}
			done[n] = true
			for _, label := range few[:1+s.below(3)] {
				if at := modelLook(x, i, label); at > 0 {
					to := place[fmt.Sprint(x.Dirs[at].Pack.Name, x.Dirs[at].Pack.Version)]
					g.Nodes[n].Edges = append(g.Nodes[n].Edges, api.Edge{Label: label, To: to})
				}
			}
		}
		met[mapsAsModel(t, x, g)]++
		l, _ := walkup.Map(x, g)
		times := map[int]int{}
		for _, n := range l {
			if times[n]++; n >= 0 && times[n] == 2 {
				shared++
			}
		}
	}
	if met[api.OK] < 1000 || met[api.ErrTree] < 1000 || shared < 200 {
		t.Error("too few of a kind:", met, shared)
	}
}
