package graph_test

import (
	"fmt"
	"math"
	"slices"
	"testing"

	"halyard/api"
	"halyard/graph"
)

// base is a graph with some of all.
func base() api.Graph {
	return drawn("root: a 1, b 2, p 3", "a 1.2.3: b 2", "b 0.0.0", "p 9.0.10 with a 1.2.3, b 0.0.0: a 1, b 2, q 4", "q 2.0.0 with p 9.0.10: p 3, q 4")
}

// same tells a fault unless Same answers just that, either way round.
func same(t *testing.T, what string, a, b api.Graph, want bool) {
	t.Helper()
	if graph.Same(a, b) != want || graph.Same(b, a) != want {
		t.Errorf("Same of graphs that differ in %s: not %v", what, want)
	}
}

// others is graphs that differ from base in one thing each, by what that is.
func others() map[string]api.Graph {
	l := map[string]api.Graph{}
	with := func(what string, change func(*api.Graph)) {
		g := base()
		change(&g)
		l[what] = g
	}
	for i := range base().Nodes {
		place := fmt.Sprint(" at ", i)
		with("a name"+place, func(g *api.Graph) { g.Nodes[i].Name += "x" })
		with("a major number"+place, func(g *api.Graph) { g.Nodes[i].Version.Major++ })
		with("a minor number"+place, func(g *api.Graph) { g.Nodes[i].Version.Minor-- })
		with("a patch number"+place, func(g *api.Graph) { g.Nodes[i].Version.Patch += 1 << 32 })
		with("a pin more"+place, func(g *api.Graph) { g.Nodes[i].Context = append(g.Nodes[i].Context, api.Pin{}) })
		with("an edge more"+place, func(g *api.Graph) { g.Nodes[i].Edges = append(g.Nodes[i].Edges, api.Edge{}) })
		with("a node less"+place, func(g *api.Graph) { g.Nodes = slices.Delete(g.Nodes, i, i+1) })
		with("a node more"+place, func(g *api.Graph) { g.Nodes = slices.Insert(g.Nodes, i, g.Nodes[i]) })
		for j := range i {
			with(fmt.Sprint("the order of nodes ", i, j), func(g *api.Graph) { g.Nodes[i], g.Nodes[j] = g.Nodes[j], g.Nodes[i] })
		}
		for j := range base().Nodes[i].Context {
			at := fmt.Sprint(place, " ", j)
			with("a pin's name"+at, func(g *api.Graph) { g.Nodes[i].Context[j].Name += "x" })
			with("a pin's version"+at, func(g *api.Graph) { g.Nodes[i].Context[j].Version.Patch-- })
			with("a pin less"+at, func(g *api.Graph) { g.Nodes[i].Context = slices.Delete(g.Nodes[i].Context, j, j+1) })
		}
		for j := range base().Nodes[i].Edges {
			at := fmt.Sprint(place, " ", j)
			with("a label"+at, func(g *api.Graph) { g.Nodes[i].Edges[j].Label = "A" })
			with("where an edge leads"+at, func(g *api.Graph) { g.Nodes[i].Edges[j].To = -g.Nodes[i].Edges[j].To })
			with("an edge less"+at, func(g *api.Graph) { g.Nodes[i].Edges = slices.Delete(g.Nodes[i].Edges, j, j+1) })
		}
	}
	with("a node more at the end", func(g *api.Graph) { g.Nodes = append(g.Nodes, api.Node{}) })
	with("the order of edges", func(g *api.Graph) { slices.Reverse(g.Nodes[3].Edges) })
	with("the order of the root's edges", func(g *api.Graph) { slices.Reverse(g.Nodes[0].Edges) })
	with("the order of pins", func(g *api.Graph) { slices.Reverse(g.Nodes[3].Context) })
	with("all nodes", func(g *api.Graph) { g.Nodes = nil })
	with("all but the root", func(g *api.Graph) { g.Nodes = g.Nodes[:1] })
	return l
}

// P10.2: Same tells whether two graphs have the same nodes, place by place, with the same edges; of any.
func TestSame(t *testing.T) {
	same(t, "nothing", base(), base(), true)
	all := others()
	if len(all) < 60 {
		t.Errorf("only %d others", len(all))
	}
	for what, g := range all {
		same(t, what, base(), g, false)
		same(t, "nothing", g, clone(g), true)
	}
	same(t, "nothing", api.Graph{}, api.Graph{}, true)
	same(t, "a node", api.Graph{}, drawn("root"), false)
	// Such as may not be.
	odd := drawn("Z -1.1000.5 with B 1.0.0, A 1.0.0, A 1.0.0: z -7, a 99, a 99", " 0.0.0: x 0", " 0.0.0: x 0")
	same(t, "nothing", odd, clone(odd), true)
	for i := range 3 {
		other := clone(odd)
		other.Nodes[0].Edges[i].To++
		same(t, "an edge", odd, other, false)
		other = clone(odd)
		other.Nodes[0].Context[i].Version.Minor++
		same(t, "a pin", odd, other, false)
	}
}

// finds tells a fault unless Find answers just that place.
func finds(t *testing.T, g api.Graph, at, context string, want int) {
	t.Helper()
	p := pin(at)
	if got := graph.Find(g, p.Name, p.Version, pins(context)); got != want {
		t.Errorf("Find of %s with (%s) in %s: %d, not %d", at, context, short(flat(g)), got, want)
	}
}

// P10.2: Find tells the first place of a node with this Name, Version and Context; -1, if there is none.
func TestFind(t *testing.T) {
	g := drawn("root: a 1", "a 1.0.0: a 1", "a 1.0.0 with b 1.0.0", "a 1.0.0 with b 2.0.0", "a 2.0.0", "b 1.0.0", "a 1.0.0", "a 1.0.0 with b 1.0.0, c 1.0.0", "a 1.0.0 with b 1.0.0: a 1", "b 1.0.0 with b 1.0.0")
	finds(t, g, " 0.0.0", "", 0)
	finds(t, g, "a 1.0.0", "", 1)
	finds(t, g, "a 1.0.0", "b 1.0.0", 2)
	finds(t, g, "a 1.0.0", "b 2.0.0", 3)
	finds(t, g, "a 2.0.0", "", 4)
	finds(t, g, "b 1.0.0", "", 5)
	finds(t, g, "a 1.0.0", "b 1.0.0, c 1.0.0", 7)
	finds(t, g, "b 1.0.0", "b 1.0.0", 9)
	for at, context := range map[string]string{"c 1.0.0": "", "a 3.0.0": "", "a 1.0.1": "", "a 1.1.0": "", "A 1.0.0": "", "aa 1.0.0": "", " 1.0.0": "", "a 0.0.0": "", "a 2.0.0": "b 1.0.0", "b 2.0.0": "", "b 1.0.0": "b 2.0.0", " 0.0.0": "b 1.0.0"} {
		finds(t, g, at, context, -1)
	}
	for _, context := range []string{"c 1.0.0", "c 1.0.0, b 1.0.0", "b 1.0.0, b 1.0.0", "b 1.0.0, c 1.0.0, d 1.0.0", "b 3.0.0", "B 1.0.0", "a 1.0.0"} {
		finds(t, g, "a 1.0.0", context, -1)
	}
	finds(t, api.Graph{}, "a 1.0.0", "", -1)
	finds(t, api.Graph{}, " 0.0.0", "", -1)
	// In graphs that may not be: a root that is none, the root's like at a later place, contexts that do not rise.
	odd := drawn("a 1.0.0", "root", "Z -1.0.1000 with c 1.0.0, b 1.0.0", "root", "a 1.0.0")
	finds(t, odd, "a 1.0.0", "", 0)
	finds(t, odd, " 0.0.0", "", 1)
	finds(t, odd, "Z -1.0.1000", "c 1.0.0, b 1.0.0", 2)
	finds(t, odd, "Z -1.0.1000", "b 1.0.0, c 1.0.0", -1)
}

// reaches tells a fault unless Reach answers just those places.
func reaches(t *testing.T, g api.Graph, want ...int) {
	t.Helper()
	if got := graph.Reach(g); !slices.Equal(got, want) {
		t.Errorf("Reach of %s: %v, not %v", short(flat(g)), got, want)
	}
}

// P10.2: Reach tells the places that are reached from place 0, itself too, rising.
func TestReach(t *testing.T) {
	reaches(t, api.Graph{})
	reaches(t, drawn("root"), 0)
	reaches(t, base(), 0, 1, 2, 3, 4)
	reaches(t, drawn("root: a 1", "a 1.0.0", "b 1.0.0"), 0, 1)
	reaches(t, drawn("root: b 2", "a 1.0.0", "b 1.0.0"), 0, 2)
	reaches(t, drawn("root", "a 1.0.0: b 2", "b 1.0.0: a 1"), 0)
	// They rise, in whatever order they were met.
	reaches(t, drawn("root: a 5, b 3", "c 1.0.0", "d 1.0.0", "b 1.0.0: c 1", "e 1.0.0", "a 1.0.0: d 2", "f 1.0.0: a 5"), 0, 1, 2, 3, 5)
	reaches(t, drawn("root: a 3", "a 1.0.0", "a 2.0.0: a 1", "a 3.0.0: a 2"), 0, 1, 2, 3)
	// Rings, and edges that lead back to the root, or twice to one node.
	reaches(t, drawn("root: a 0"), 0)
	reaches(t, drawn("root: a 1", "a 1.0.0: a 1"), 0, 1)
	reaches(t, drawn("root: a 1", "a 1.0.0: b 2", "b 1.0.0: c 3", "c 1.0.0: a 1, r 0", "d 1.0.0: a 1, d 4"), 0, 1, 2, 3)
	reaches(t, drawn("root: b 2, b 2, a 1", "a 1.0.0: b 2", "b 1.0.0: a 1"), 0, 1, 2)
}

// P10.2: edges whose To is no place lead nowhere, whatever their labels say.
func TestReachNowhere(t *testing.T) {
	for _, to := range []int{-1, -2, 3, 4, 128, 1 << 32, math.MaxInt, math.MinInt} {
		reaches(t, drawn(fmt.Sprintf("root: a %d", to), "a 1.0.0", "b 1.0.0"), 0)
		reaches(t, drawn(fmt.Sprintf("root: a %d, b 2", to), "a 1.0.0", "b 1.0.0"), 0, 2)
		reaches(t, drawn("root: a 1", fmt.Sprintf("a 1.0.0: b %d, c %d", to, to), "b 1.0.0"), 0, 1)
	}
	reaches(t, drawn("a 1.0.0: x 2", "b 1.0.0", "root: y 1, z -1"), 0, 1, 2)
	reaches(t, drawn("a 1.0.0: x 1", "b 1.0.0", "root: y 1"), 0, 1)
}

// pinned tells a fault unless Pins answers just those.
func pinned(t *testing.T, g api.Graph, want string) {
	t.Helper()
	if got := graph.Pins(g); !slices.Equal(got, pins(want)) {
		t.Errorf("Pins of %s: %v, not %s", short(flat(g)), got, want)
	}
}

// P10.2: Pins tells Names and Versions of all nodes but the first, each pair once, by Name, byte by byte, then by Version.
func TestPins(t *testing.T) {
	pinned(t, api.Graph{}, "")
	pinned(t, drawn("root"), "")
	pinned(t, drawn("a 1.0.0"), "")
	pinned(t, base(), "a 1.2.3, b 0.0.0, p 9.0.10, q 2.0.0")
	// A pair several times, in one context or in several, side by side or not.
	pinned(t, drawn("root", "b 1.0.0", "a 1.0.0", "b 1.0.0", "a 1.0.0 with b 1.0.0", "b 1.0.0 with a 1.0.0", "a 2.0.0 with b 1.0.0", "a 1.0.0"), "a 1.0.0, a 2.0.0, b 1.0.0")
	// Byte by byte, then by numbers.
	pinned(t, drawn("root", "b 1.0.0", "aa 1.0.0", "a0 1.0.0", "a-b 1.0.0", "a 10.0.0", "a 9.0.0", "a 9.10.0", "a 9.9.0", "a 9.9.10", "a 9.9.9", "a 9.0.1"),
		"a 9.0.0, a 9.0.1, a 9.9.0, a 9.9.9, a 9.9.10, a 9.10.0, a 10.0.0, a-b 1.0.0, a0 1.0.0, aa 1.0.0, b 1.0.0")
	// Nodes need not be reached; what contexts and edges name is no node; the first one counts only where it stands a second time.
	pinned(t, drawn("root", "b 1.0.0 with c 1.0.0: d 1"), "b 1.0.0")
	pinned(t, drawn("a 1.0.0", "b 1.0.0"), "b 1.0.0")
	pinned(t, drawn("a 1.0.0", "b 1.0.0", "a 1.0.0"), "a 1.0.0, b 1.0.0")
	pinned(t, drawn("root", "a 1.0.0", "root"), " 0.0.0, a 1.0.0")
	// Such as may not be, by their numbers.
	pinned(t, drawn("root", "Z 1.0.0", "a 1000.0.0", "a -1.0.0", "a -1.5.0", "A 1.0.0", "a -2.0.0", "a 999.0.0"), "A 1.0.0, Z 1.0.0, a -2.0.0, a -1.0.0, a -1.5.0, a 999.0.0, a 1000.0.0")
	far := api.Graph{Nodes: []api.Node{{}, {Version: version(math.MaxInt, 0, 0)}, {Version: version(math.MinInt, 0, 0)}, {Version: version(0, math.MaxInt, 0)}, {Version: version(0, math.MinInt, 0)}}}
	want := []api.Pin{{Version: version(math.MinInt, 0, 0)}, {Version: version(0, math.MinInt, 0)}, {Version: version(0, math.MaxInt, 0)}, {Version: version(math.MaxInt, 0, 0)}}
	if got := graph.Pins(far); !slices.Equal(got, want) {
		t.Errorf("Pins of versions far from one another: %v", got)
	}
}
