package graph_test

import (
	"fmt"
	"math"
	"slices"
	"strings"
	"testing"

	"halyard/api"
	"halyard/catalog"
	"halyard/graph"
	"halyard/span"
)

// chapter is the task of the chapter's examples.
func chapter() task {
	return of("needs a, b, p", "a 1.0.0; needs b", "b 1.0.0", "p 1.0.0; beside b >=1.0.0")
}

// right is its solution.
func right() []string {
	return []string{"root: a 1, b 2, p 3", "a 1.0.0: b 2", "b 1.0.0", "p 1.0.0 with b 1.0.0: b 2"}
}

// changed is nodes of which the one at a place is another one.
func changed(l []string, place int, other string) []string {
	l = slices.Clone(l)
	l[place] = other
	return l
}

// The chapter's examples.
func TestExamples(t *testing.T) {
	x := chapter()
	x.solved(t, "the chapter's graph", right()...)
	x.refused(t, "the same without p's edge", changed(right(), 3, "p 1.0.0 with b 1.0.0")...)
	x.refused(t, "p without its context", changed(right(), 3, "p 1.0.0: b 2")...)
	x.refused(t, "p without both", changed(right(), 3, "p 1.0.0")...)
	x.refused(t, "the same with a second b", append(right(), "b 1.0.0")...)
	x.refused(t, "the same with a second b that is reached", append(changed(right(), 3, "p 1.0.0 with b 1.0.0: b 4"), "b 1.0.0")...)
}

// noManifests is manifests that may not be.
func noManifests() []api.Manifest {
	long := project("needs a")
	for i := range 16 {
		var r []api.Span
		for j := range 40 {
			r = append(r, api.Span{Lo: version(j, 0, 0), Hi: version(j, 1, 0)})
		}
		long.Overrides = append(long.Overrides, api.Dep{Name: fmt.Sprintf("n%02d", i), Range: r})
	}
	many := project("")
	for i := range 17 {
		many.Dev = append(many.Dev, api.Dep{Name: fmt.Sprintf("n%02d", i), Range: span.All()})
	}
	return []api.Manifest{
		project("needs a; dev a"), project("needs a; likes a"), project("dev a; likes a"), project("needs b, a"), project("needs a, a"), project("pins b, a"), long, many,
		{Deps: []api.Dep{{Name: "A", Range: span.All()}}}, {Deps: []api.Dep{{Name: "a"}}}, {Optional: []api.Dep{{Name: "", Range: span.All()}}},
		{Overrides: []api.Dep{{Name: "a", Range: []api.Span{{Lo: version(2, 0, 0), Hi: version(1, 0, 0)}}}}}, {Overrides: make([]api.Dep, 1<<16)},
	}
}

// P10.1: ErrArg without a catalog, and of a manifest that may not be, ahead of any look at the graph.
func TestArguments(t *testing.T) {
	x := chapter()
	graphs := []api.Graph{drawn(right()...), {}, drawn("root"), drawn("a 1.0.0"), drawn("root: a 9, a -1"), {Nodes: make([]api.Node, 1<<16)}}
	for _, g := range graphs {
		for _, dev := range []bool{true, false} {
			task{c: nil, m: x.m, dev: dev}.answers(t, "a graph without a catalog", g, api.ErrArg)
			for _, m := range noManifests() {
				task{c: x.c, m: m, dev: dev}.answers(t, "a graph of a manifest that may not be", g, api.ErrArg)
				task{c: nil, m: m, dev: dev}.answers(t, "a graph of neither", g, api.ErrArg)
			}
		}
	}
	for _, g := range graphs[1:] {
		x.answers(t, "a graph that is none", g, api.ErrGraph)
	}
	x.answers(t, "the right one", graphs[0], api.OK)
	task{c: catalog.New(), m: x.m}.answers(t, "a graph of an empty catalog", graphs[0], api.ErrGraph)
	task{c: catalog.New()}.answers(t, "the root alone, of nothing", drawn("root"), api.OK)
	task{c: new(catalog.Catalog)}.answers(t, "the root alone, of nothing", drawn("root"), api.OK)
}

// chain is packages that need one another, each the next one, and their graph, in which they stand one behind the other.
func chain(count int) (task, api.Graph) {
	var all []string
	nodes := []string{"root: n001 1"}
	for i := range count {
		p, n := fmt.Sprintf("n%03d 1.0.0", i+1), fmt.Sprintf("n%03d 1.0.0", i+1)
		if i+1 < count {
			p += fmt.Sprintf("; needs n%03d", i+2)
			n += fmt.Sprintf(": n%03d %d", i+2, i+2)
		}
		all, nodes = append(all, p), append(nodes, n)
	}
	return of("needs n001", all...), drawn(nodes...)
}

// P10.1: a solution has 1 to MaxNodes nodes.
func TestHowMany(t *testing.T) {
	empty := of("")
	empty.refused(t, "no node")
	empty.solved(t, "the root alone", "root")
	for _, count := range []int{1, 2, 126, 127} {
		x, g := chain(count)
		x.answers(t, "a chain", g, api.OK)
	}
	x, g := chain(128)
	if len(g.Nodes) != api.MaxNodes+1 {
		t.Fatal(len(g.Nodes))
	}
	x.answers(t, "a chain of one more", g, api.ErrGraph)
	x, g = chain(127)
	g.Nodes[127].Edges = edges("n001 1")
	x.answers(t, "a chain whose last one leads back, though it does not want to", g, api.ErrGraph)
}

// P10.1: the first node is the root: no Name, Version zero, no Context.
func TestFirstIsRoot(t *testing.T) {
	x := of("needs a, p", "a 1.0.0", "a 0.0.0", "p 1.0.0; beside a")
	x.solved(t, "the right one", "root: a 1, p 2", "a 1.0.0", "p 1.0.0 with a 1.0.0: a 1")
	for _, first := range []string{"a 0.0.0: a 1, p 2", "root 0.0.0: a 1, p 2", " 1.0.0: a 1, p 2", " 0.1.0: a 1, p 2", " 0.0.1: a 1, p 2", "root with a 1.0.0: a 1, p 2", "root with b 1.0.0: a 1, p 2"} {
		x.refused(t, first, first, "a 1.0.0", "p 1.0.0 with a 1.0.0: a 1")
	}
	// Nothing needs anything, so that nothing but the first node is wrong.
	of("", "a 1.0.0").refused(t, "a package in the root's place", "a 1.0.0")
	of("", "a 1.0.0").refused(t, "an empty name with a version", " 1.0.0")
	of("needs a", "a 1.0.0").refused(t, "the root behind its package", "a 1.0.0", "root: a 0")
	of("").refused(t, "two roots", "root", "root")
	of("needs a", "a 1.0.0").refused(t, "two roots, and a package", "root: a 2", "root: a 2", "a 1.0.0")
}

// P10.1: each other node's package is in the catalog.
func TestInTheCatalog(t *testing.T) {
	x := of("needs a", "a 1.0.0; likes b", "b 2.0.0", "c 1.0.0")
	x.solved(t, "packages that are there", "root: a 1", "a 1.0.0: b 2", "b 2.0.0")
	x.refused(t, "a in another version", "root: a 1", "a 2.0.0")
	x.refused(t, "a in another version, which may not be", "root: a 1", "a 1.0.1000")
	x.refused(t, "b in another version", "root: a 1", "a 1.0.0: b 2", "b 1.0.0")
	of("needs b", "a 1.0.0").refused(t, "b in a's version", "root: b 1", "b 1.0.0")
	of("needs a", "b 1.0.0").refused(t, "a in an empty place", "root: a 1", "a 1.0.0")
	for _, name := range noNames() {
		g := drawn("root: a 1", "a 1.0.0: b 2", "b 2.0.0")
		g.Nodes[1].Edges[0].Label, g.Nodes[2].Name = name, name
		x.answers(t, "a name that may not be", g, api.ErrGraph)
	}
	for _, v := range noVersions() {
		g := drawn("root: a 1", "a 1.0.0: b 2", "b 2.0.0")
		g.Nodes[2].Version = v
		x.answers(t, "a version that may not be", g, api.ErrGraph)
	}
}

// P10.1: no two nodes have Name, Version and Context alike; two may differ in one of them alone.
func TestNoTwoAlike(t *testing.T) {
	x := of("needs a, b", "a 1.0.0; needs c, d", "b 1.0.0; needs c, d", "c 1.0.0; likes e", "c 2.0.0", "d 1.0.0; beside c", "e 1.0.0")
	x.solved(t, "c once", "root: a 1, b 2", "a 1.0.0: c 3, d 4", "b 1.0.0: c 3, d 4", "c 1.0.0", "d 1.0.0 with c 1.0.0: c 3")
	x.refused(t, "c twice", "root: a 1, b 2", "a 1.0.0: c 3, d 4", "b 1.0.0: c 5, d 4", "c 1.0.0", "d 1.0.0 with c 1.0.0: c 3", "c 1.0.0")
	x.refused(t, "c twice, with other edges", "root: a 1, b 2", "a 1.0.0: c 3, d 4", "b 1.0.0: c 5, d 4", "c 1.0.0", "d 1.0.0 with c 1.0.0: c 3", "c 1.0.0: e 6", "e 1.0.0")
	x.refused(t, "d twice in one context", "root: a 1, b 2", "a 1.0.0: c 3, d 4", "b 1.0.0: c 3, d 5", "c 1.0.0", "d 1.0.0 with c 1.0.0: c 3", "d 1.0.0 with c 1.0.0: c 3")
	x.solved(t, "c in two versions, d in two contexts", "root: a 1, b 2", "a 1.0.0: c 3, d 4", "b 1.0.0: c 5, d 6", "c 1.0.0", "d 1.0.0 with c 1.0.0: c 3", "c 2.0.0", "d 1.0.0 with c 2.0.0: c 5")
	// Two names in one version, that differ in nothing else.
	of("needs a, b", "a 1.0.0", "b 1.0.0").solved(t, "two names", "root: a 1, b 2", "a 1.0.0", "b 1.0.0")
}

// P10.1: each node is reached from the root by edges.
func TestReached(t *testing.T) {
	x := of("needs a", "a 1.0.0", "b 1.0.0; likes b, c", "c 1.0.0; needs b; likes a", "p 1.0.0; beside p")
	x.solved(t, "all reached", "root: a 1", "a 1.0.0")
	x.refused(t, "one that nothing leads to", "root: a 1", "a 1.0.0", "b 1.0.0")
	x.refused(t, "one that only itself leads to", "root: a 1", "a 1.0.0", "b 1.0.0: b 2")
	x.refused(t, "one that only itself leads to, beside itself", "root: a 1", "a 1.0.0", "p 1.0.0 with p 1.0.0: p 2")
	x.refused(t, "a ring that nothing leads to", "root: a 1", "a 1.0.0", "b 1.0.0: c 3", "c 1.0.0: b 2")
	x.refused(t, "a ring that leads to what is reached", "root: a 1", "a 1.0.0", "b 1.0.0: b 2, c 3", "c 1.0.0: a 1, b 2")
	y := of("needs a; likes b", "a 1.0.0", "b 1.0.0; likes b, c", "c 1.0.0; needs b; likes a")
	y.solved(t, "the same ring, reached", "root: a 1, b 2", "a 1.0.0", "b 1.0.0: b 2, c 3", "c 1.0.0: a 1, b 2")
	y.refused(t, "the same ring, not reached", "root: a 1", "a 1.0.0", "b 1.0.0: b 2, c 3", "c 1.0.0: a 1, b 2")
}

// P10.1: each edge's To is 1 to the last place, and its node has the Name Label.
func TestEdgesLead(t *testing.T) {
	x := of("needs a; likes b, c", "a 1.0.0; likes b, c", "b 1.0.0", "c 1.0.0")
	x.solved(t, "the right one", "root: a 1, b 2", "a 1.0.0: b 2, c 3", "b 1.0.0", "c 1.0.0")
	for _, to := range []int{0, -1, 4, 5, 128, math.MaxInt, math.MinInt, 1 << 32} {
		for _, text := range []string{"root: a 1, b %d", "root: a %d, b 2", "root: a 1, b 2, c %d"} {
			x.refused(t, "an edge of the root to no node", fmt.Sprintf(text, to), "a 1.0.0: b 2, c 3", "b 1.0.0", "c 1.0.0")
		}
		x.refused(t, "an edge of a package to no node", "root: a 1, b 2", fmt.Sprintf("a 1.0.0: b %d, c 3", to), "b 1.0.0", "c 1.0.0")
	}
	x.refused(t, "an edge to a node of another name", "root: a 1, b 3", "a 1.0.0: b 2, c 3", "b 1.0.0", "c 1.0.0")
	x.refused(t, "an edge of a package to a node of another name", "root: a 1, b 2, c 3", "a 1.0.0: b 3, c 3", "b 1.0.0", "c 1.0.0")
	x.refused(t, "two edges that are changed for one another", "root: a 1, b 3, c 2", "a 1.0.0", "b 1.0.0", "c 1.0.0")
	x.refused(t, "an edge to itself, of another name", "root: a 1, b 2", "a 1.0.0: b 1, c 3", "b 1.0.0", "c 1.0.0")
	// To 0 is no node for an edge, though its Label is that node's Name.
	g := drawn("root: a 1, b 2", "a 1.0.0: b 2, c 3", "b 1.0.0", "c 1.0.0")
	g.Nodes[0].Edges = append([]api.Edge{{}}, g.Nodes[0].Edges...)
	x.answers(t, "an edge of no name to the root", g, api.ErrGraph)
}

// P10.1: edges rise by Label, each once.
func TestEdgesRise(t *testing.T) {
	x := of("needs a, a-b, a0, aa, b", "a 1.0.0; needs a0, b", "a-b 1.0.0", "a0 1.0.0", "aa 1.0.0", "b 1.0.0")
	rest := []string{"a 1.0.0: a0 3, b 5", "a-b 1.0.0", "a0 1.0.0", "aa 1.0.0", "b 1.0.0"}
	with := func(first string) []string { return append([]string{first}, rest...) }
	x.solved(t, "edges that rise", with("root: a 1, a-b 2, a0 3, aa 4, b 5")...)
	for _, first := range []string{
		"root: a-b 2, a 1, a0 3, aa 4, b 5", "root: a 1, a0 3, a-b 2, aa 4, b 5", "root: a 1, a-b 2, aa 4, a0 3, b 5", "root: b 5, a 1, a-b 2, a0 3, aa 4", "root: b 5, aa 4, a0 3, a-b 2, a 1",
		"root: a 1, a 1, a-b 2, a0 3, aa 4, b 5", "root: a 1, a-b 2, a0 3, aa 4, b 5, b 5", "root: a 1, a-b 2, a0 3, aa 4, b 5, a 1",
	} {
		x.refused(t, "edges that do not rise", with(first)...)
	}
	whole := with("root: a 1, a-b 2, a0 3, aa 4, b 5")
	x.refused(t, "edges of a package that do not rise", changed(whole, 1, "a 1.0.0: b 5, a0 3")...)
	x.refused(t, "an edge of a package twice", changed(whole, 1, "a 1.0.0: a0 3, b 5, b 5")...)
	// One Label to two nodes, each of which would do.
	y := of("needs a", "a 1.0.0", "a 2.0.0")
	y.solved(t, "the one", "root: a 1", "a 1.0.0")
	y.refused(t, "two of a name", "root: a 1, a 2", "a 1.0.0", "a 2.0.0")
}

// P10.1: a context rises by Name, each once.
func TestContextsRise(t *testing.T) {
	x := of("needs b, c, p", "b 1.0.0", "c 1.0.0", "p 1.0.0; beside b, c")
	rest := []string{"root: b 1, c 2, p 3", "b 1.0.0", "c 1.0.0"}
	x.solved(t, "a context that rises", append(rest, "p 1.0.0 with b 1.0.0, c 1.0.0: b 1, c 2")...)
	for _, context := range []string{"c 1.0.0, b 1.0.0", "b 1.0.0, b 1.0.0, c 1.0.0", "b 1.0.0, c 1.0.0, c 1.0.0", "b 1.0.0, c 1.0.0, b 1.0.0", "b 1.0.0, c 1.0.0, c 2.0.0"} {
		x.refused(t, "a context that does not rise", append(rest, "p 1.0.0 with "+context+": b 1, c 2")...)
	}
}

// P10.1: each want of WantMust has an edge; one of WantMay may have one.
func TestWants(t *testing.T) {
	x := of("needs a, b; dev c; likes d", "a 1.0.0; needs c; likes d", "b 1.0.0", "c 1.0.0", "d 1.0.0")
	x.solved(t, "all", "root: a 1, b 2, c 3, d 4", "a 1.0.0: c 3, d 4", "b 1.0.0", "c 1.0.0", "d 1.0.0")
	x.solved(t, "all but the root's optional one", "root: a 1, b 2, c 3", "a 1.0.0: c 3, d 4", "b 1.0.0", "c 1.0.0", "d 1.0.0")
	x.solved(t, "all but a's optional one", "root: a 1, b 2, c 3, d 4", "a 1.0.0: c 3", "b 1.0.0", "c 1.0.0", "d 1.0.0")
	x.solved(t, "none that is optional", "root: a 1, b 2, c 3", "a 1.0.0: c 3", "b 1.0.0", "c 1.0.0")
	x.refused(t, "without what the root needs", "root: a 1, c 2", "a 1.0.0: c 2", "c 1.0.0")
	x.refused(t, "without what the root needs for developing", "root: a 1, b 2", "a 1.0.0: c 3", "b 1.0.0", "c 1.0.0")
	x.refused(t, "without what a needs", "root: a 1, b 2, c 3", "a 1.0.0", "b 1.0.0", "c 1.0.0")
	x.refused(t, "the root alone", "root")
	of("likes d", "d 1.0.0").solved(t, "the root alone, which would like something", "root")
	of("likes d", "d 1.0.0").solved(t, "the root with what it would like", "root: d 1", "d 1.0.0")
	of("likes d").solved(t, "the root without what is nowhere", "root")
	of("needs d").refused(t, "the root without what is nowhere, though it needs it", "root")
}

// P10.1: each edge is of an own want, or of a Label of the context.
func TestEdgesAreWanted(t *testing.T) {
	x := of("needs a, p", "a 1.0.0", "b 1.0.0; likes p", "p 1.0.0; needs b; beside a")
	nodes := []string{"root: a 1, p 2", "a 1.0.0", "p 1.0.0 with a 1.0.0: a 1, b 3", "b 1.0.0"}
	x.solved(t, "wanted edges", nodes...)
	x.refused(t, "an edge of the root that it does not want", changed(nodes, 0, "root: a 1, b 3, p 2")...)
	x.refused(t, "an edge of a package that it does not want", changed(nodes, 1, "a 1.0.0: b 3")...)
	x.refused(t, "an edge to itself that it does not want", changed(nodes, 1, "a 1.0.0: a 1")...)
	x.refused(t, "an edge that a package beside it wants", changed(nodes, 3, "b 1.0.0: a 1")...)
	// What overrides is no want.
	of("needs a; pins b 1.0.0", "a 1.0.0", "b 1.0.0").refused(t, "an edge that is only overridden", "root: a 1, b 2", "a 1.0.0", "b 1.0.0")
	of("pins b 1.0.0", "b 1.0.0").solved(t, "an override that nobody asks for", "root")
}

// P10.1: with dev what the project needs for developing must be there, without it must not.
func TestDev(t *testing.T) {
	x := of("needs a; dev b, c; likes d", "a 1.0.0; likes b", "b 1.0.0", "c 1.0.0", "d 1.0.0")
	with := []string{"root: a 1, b 2, c 3", "a 1.0.0", "b 1.0.0", "c 1.0.0"}
	without := []string{"root: a 1", "a 1.0.0: b 2", "b 1.0.0"}
	part := []string{"root: a 1, b 2", "a 1.0.0", "b 1.0.0"}
	x.solved(t, "with, with dev", with...)
	x.refused(t, "without, with dev", without...)
	x.refused(t, "a part, with dev", part...)
	x.dev = false
	x.refused(t, "with, without dev", with...)
	x.solved(t, "without, without dev", without...)
	x.refused(t, "a part, without dev", part...)
	x.solved(t, "without, but with what it would like", append(changed(without, 0, "root: a 1, d 3"), "d 1.0.0")...)
}

// P10.1: an edge of an own want has a Version in its range, be the want such as must be there or not.
func TestRanges(t *testing.T) {
	x := of("needs a ^2.0.0; dev b <3.0.0; likes c 1.0.0 || 3.0.0", "a 1.0.0", "a 2.0.0; needs d >=2.0.0; likes e 1.0.0", "a 2.9.9", "a 3.0.0",
		"b 1.0.0", "b 3.0.0", "c 1.0.0", "c 2.0.0", "c 3.0.0", "d 1.0.0", "d 2.0.0", "d 3.0.0", "e 1.0.0", "e 2.0.0")
	nodes := func(a, b, c, d, e string) []string {
		return []string{"root: a 1, b 2, c 3", "a " + a + ": d 4, e 5", "b " + b, "c " + c, "d " + d, "e " + e}
	}
	x.solved(t, "all in range", nodes("2.0.0", "1.0.0", "1.0.0", "2.0.0", "1.0.0")...)
	x.solved(t, "all in range, others", nodes("2.0.0", "1.0.0", "3.0.0", "3.0.0", "1.0.0")...)
	x.solved(t, "the last of a's range", "root: a 1, b 2", "a 2.9.9", "b 1.0.0")
	x.refused(t, "a below its range", "root: a 1, b 2", "a 1.0.0", "b 1.0.0")
	x.refused(t, "a above its range", "root: a 1, b 2", "a 3.0.0", "b 1.0.0")
	x.refused(t, "b outside its range", nodes("2.0.0", "3.0.0", "1.0.0", "2.0.0", "1.0.0")...)
	x.refused(t, "c between its spans", nodes("2.0.0", "1.0.0", "2.0.0", "2.0.0", "1.0.0")...)
	x.refused(t, "d outside a's range", nodes("2.0.0", "1.0.0", "1.0.0", "1.0.0", "1.0.0")...)
	x.refused(t, "e outside a's range", nodes("2.0.0", "1.0.0", "1.0.0", "2.0.0", "2.0.0")...)
}

// P10.1: the range is the Override's, where there is one, for the project and for packages, their own wants and their peers.
func TestOverrides(t *testing.T) {
	all := []string{"a 1.0.0; needs b 1.0.0", "b 1.0.0", "b 2.0.0", "p 1.0.0; beside b 1.0.0", "c 1.0.0; likes b 1.0.0"}
	nodes := func(b string) []string {
		return []string{"root: a 1, b 2, c 3, p 4", "a 1.0.0: b 2", "b " + b, "c 1.0.0: b 2", "p 1.0.0 with b " + b + ": b 2"}
	}
	own := of("needs a, b 1.0.0, c, p", all...)
	own.solved(t, "by their own ranges", nodes("1.0.0")...)
	own.refused(t, "outside their own ranges", nodes("2.0.0")...)
	over := of("needs a, b 1.0.0, c, p; pins b 2.0.0", all...)
	over.solved(t, "inside only by the override", nodes("2.0.0")...)
	over.refused(t, "outside by the override", nodes("1.0.0")...)
	wide := of("needs a, b 1.0.0, c, p; pins b", all...)
	wide.solved(t, "by the wide override", nodes("1.0.0")...)
	wide.solved(t, "by the wide override", nodes("2.0.0")...)
	other := of("needs a, b 1.0.0, c, p; pins a, c, p, z 9.0.0", all...)
	other.solved(t, "by overrides of other names", nodes("1.0.0")...)
	other.refused(t, "outside, with overrides of other names", nodes("2.0.0")...)
	// Each alone: the project's own, a package's need, what it would like, its peer.
	for what, l := range map[string][]string{
		"the root's need":  {"needs b 1.0.0", "root: b 1", "b 2.0.0"},
		"the root's like":  {"likes b 1.0.0", "root: b 1", "b 2.0.0"},
		"a package's need": {"needs a", "root: a 2", "b 2.0.0", "a 1.0.0: b 1"},
		"a package's like": {"needs c", "root: c 2", "b 2.0.0", "c 1.0.0: b 1"},
		"a peer":           {"needs b, p", "root: b 1, p 2", "b 2.0.0", "p 1.0.0 with b 2.0.0: b 1"},
	} {
		of(l[0], all...).refused(t, what+" outside its range", l[1:]...)
		of(l[0]+"; pins b 2.0.0", all...).solved(t, what+" by the override", l[1:]...)
	}
}

// P10.1: each Label of a context has an edge, to a node of that Version.
func TestContextHasEdges(t *testing.T) {
	x := of("needs b, c, p", "b 1.0.0", "b 2.0.0", "c 1.0.0", "p 1.0.0; beside b, c")
	rest := []string{"root: b 1, c 2, p 3", "b 1.0.0", "c 1.0.0"}
	x.solved(t, "both", append(rest, "p 1.0.0 with b 1.0.0, c 1.0.0: b 1, c 2")...)
	x.refused(t, "without the first one", append(rest, "p 1.0.0 with b 1.0.0, c 1.0.0: c 2")...)
	x.refused(t, "without the second one", append(rest, "p 1.0.0 with b 1.0.0, c 1.0.0: b 1")...)
	x.refused(t, "without both", append(rest, "p 1.0.0 with b 1.0.0, c 1.0.0")...)
	x.refused(t, "to another Version", append(rest, "p 1.0.0 with b 1.0.0, c 1.0.0: b 4, c 2", "b 2.0.0")...)
	x.refused(t, "to another Version, of which the context tells", append(rest, "p 1.0.0 with b 2.0.0, c 1.0.0: b 4, c 2", "b 2.0.0")...)
}

// P10.1: a Label that is both an own want and of the context has a Version that does for both.
func TestOwnAndContext(t *testing.T) {
	// p is beside q, and q beside r, so that r is in p's context, which p needs on its own, too.
	x := of("needs p, q, r", "p 1.0.0; needs r <=2.0.0; beside q", "q 1.0.0; beside r >=2.0.0", "r 1.0.0", "r 2.0.0", "r 3.0.0", "p 2.0.0; beside q; likes r 3.0.0")
	nodes := func(p, r string) []string {
		return []string{"root: p 1, q 2, r 3", "p " + p + " with q 1.0.0, r " + r + ": q 2, r 3", "q 1.0.0 with r " + r + ": r 3", "r " + r}
	}
	x.solved(t, "in both ranges", nodes("1.0.0", "2.0.0")...)
	x.refused(t, "outside the own range", nodes("1.0.0", "3.0.0")...)
	x.refused(t, "outside the peer's range", nodes("1.0.0", "1.0.0")...)
	x.solved(t, "in the range of what it would like", nodes("2.0.0", "3.0.0")...)
	x.refused(t, "outside the range of what it would like, though it must have it", nodes("2.0.0", "2.0.0")...)
	x.refused(t, "without the edge that is of the context", changed(nodes("2.0.0", "3.0.0"), 1, "p 2.0.0 with q 1.0.0, r 3.0.0: q 2")...)
	x.refused(t, "an own r, and another one of the context", append(changed(nodes("1.0.0", "2.0.0"), 1, "p 1.0.0 with q 1.0.0, r 2.0.0: q 2, r 4"), "r 1.0.0")...)
}

// P10.1: a node's Context is what its dependant's environment tells: nothing more, less or other.
func TestContexts(t *testing.T) {
	x := of("needs a, b, c, p", "a 1.0.0", "b 1.0.0", "b 2.0.0", "c 1.0.0", "p 1.0.0; beside b; likes c")
	nodes := func(p string, more ...string) []string {
		return append([]string{"root: a 1, b 2, c 3, p 4", "a 1.0.0", "b 1.0.0", "c 1.0.0", p}, more...)
	}
	x.solved(t, "as the environment tells", nodes("p 1.0.0 with b 1.0.0: b 2")...)
	x.solved(t, "with more edges", nodes("p 1.0.0 with b 1.0.0: b 2, c 3")...)
	x.refused(t, "more", nodes("p 1.0.0 with b 1.0.0, c 1.0.0: b 2, c 3")...)
	x.refused(t, "more ahead", nodes("p 1.0.0 with a 1.0.0, b 1.0.0: a 1, b 2")...)
	x.refused(t, "less", nodes("p 1.0.0")...)
	x.refused(t, "less, with the edge", nodes("p 1.0.0: b 2")...)
	x.refused(t, "another name", nodes("p 1.0.0 with c 1.0.0: c 3")...)
	x.refused(t, "another version", nodes("p 1.0.0 with b 2.0.0: b 5", "b 2.0.0")...)
	x.refused(t, "a package without peers that has a context", changed(nodes("p 1.0.0 with b 1.0.0: b 2"), 1, "a 1.0.0 with b 1.0.0: b 2")...)
}

// P10.1: a context must stand in the environment: what it needs beside it is there, in its range.
func TestContextStands(t *testing.T) {
	all := []string{"b 1.0.0", "b 2.0.0", "p 1.0.0; beside b 1.0.0", "a 1.0.0; needs p; likes b"}
	lacks := of("needs p", all...)
	lacks.refused(t, "nothing beside it", "root: p 1", "p 1.0.0")
	lacks.refused(t, "b beside it alone", "root: p 1", "p 1.0.0 with b 1.0.0: b 2", "b 1.0.0")
	likes := of("needs p; likes b", all...)
	likes.refused(t, "not what it would like", "root: p 1", "p 1.0.0 with b 1.0.0: b 2", "b 1.0.0")
	likes.solved(t, "what it would like", "root: b 1, p 2", "b 1.0.0", "p 1.0.0 with b 1.0.0: b 1")
	likes.refused(t, "what it would like, outside p's range", "root: b 1, p 2", "b 2.0.0", "p 1.0.0 with b 2.0.0: b 1")
	inner := of("needs a, b", all...)
	inner.refused(t, "the root has b, but a, which leads to p, has not", "root: a 1, b 2", "a 1.0.0: p 3", "b 1.0.0", "p 1.0.0 with b 1.0.0: b 2")
	inner.solved(t, "a has b", "root: a 1, b 2", "a 1.0.0: b 2, p 3", "b 1.0.0", "p 1.0.0 with b 1.0.0: b 2")
	inner.solved(t, "a has another b than the root", "root: a 1, b 2", "a 1.0.0: b 4, p 3", "b 2.0.0", "p 1.0.0 with b 1.0.0: b 4", "b 1.0.0")
	inner.refused(t, "a has a b that p may not have", "root: a 1, b 2", "a 1.0.0: b 4, p 3", "b 1.0.0", "p 1.0.0 with b 2.0.0: b 4", "b 2.0.0")
}

// P10.1: peers of peers are in a context, too, and each has its own context in its dependant's environment.
func TestPeersOfPeers(t *testing.T) {
	x := of("needs p, q, r, s", "p 1.0.0; beside q", "q 1.0.0; beside r", "r 1.0.0", "r 2.0.0", "s 1.0.0")
	rest := []string{"q 1.0.0 with r 1.0.0: r 3", "r 1.0.0", "s 1.0.0"}
	nodes := func(p string) []string { return append([]string{"root: p 1, q 2, r 3, s 4", p}, rest...) }
	x.solved(t, "both", nodes("p 1.0.0 with q 1.0.0, r 1.0.0: q 2, r 3")...)
	x.refused(t, "the peer alone", nodes("p 1.0.0 with q 1.0.0: q 2")...)
	x.refused(t, "the peer alone, with both edges", nodes("p 1.0.0 with q 1.0.0: q 2, r 3")...)
	x.refused(t, "the peer's peer alone", nodes("p 1.0.0 with r 1.0.0: r 3")...)
	x.refused(t, "one more", nodes("p 1.0.0 with q 1.0.0, r 1.0.0, s 1.0.0: q 2, r 3, s 4")...)
	x.refused(t, "another q than the root's", append(nodes("p 1.0.0 with q 1.0.0, r 1.0.0: q 5, r 3"), "q 1.0.0 with r 2.0.0: r 6", "r 2.0.0")...)
	// A ring of peers: each is in its own context, too.
	ring := of("needs a, b", "a 1.0.0; beside b", "b 1.0.0; beside a")
	ring.solved(t, "a ring", "root: a 1, b 2", "a 1.0.0 with a 1.0.0, b 1.0.0: a 1, b 2", "b 1.0.0 with a 1.0.0, b 1.0.0: a 1, b 2")
	ring.refused(t, "a ring, not in their own contexts", "root: a 1, b 2", "a 1.0.0 with b 1.0.0: b 2", "b 1.0.0 with a 1.0.0: a 1")
	// A peer of itself is there in the version that its dependant has.
	self := of("needs a", "a 1.0.0; beside a", "a 2.0.0; beside a 1.0.0")
	self.solved(t, "beside itself", "root: a 1", "a 1.0.0 with a 1.0.0: a 1")
	self.refused(t, "beside itself, with another version", "root: a 1", "a 2.0.0 with a 2.0.0: a 1")
	self.refused(t, "without itself", "root: a 1", "a 1.0.0")
}

// P10.1: where two dependants have different environments, one package stands there in two contexts.
func TestTwoContexts(t *testing.T) {
	x := of("needs a, c", "a 1.0.0; needs b 1.0.0, p", "c 1.0.0; needs b 2.0.0, p", "b 1.0.0", "b 2.0.0", "p 1.0.0; beside b; needs z", "z 1.0.0")
	x.solved(t, "p in two contexts", "root: a 1, c 2", "a 1.0.0: b 3, p 4", "c 1.0.0: b 5, p 6", "b 1.0.0", "p 1.0.0 with b 1.0.0: b 3, z 7", "b 2.0.0", "p 1.0.0 with b 2.0.0: b 5, z 7", "z 1.0.0")
	x.refused(t, "p in one context", "root: a 1, c 2", "a 1.0.0: b 3, p 4", "c 1.0.0: b 5, p 4", "b 1.0.0", "p 1.0.0 with b 1.0.0: b 3, z 6", "b 2.0.0", "z 1.0.0")
	x.refused(t, "p in two contexts, changed for one another", "root: a 1, c 2", "a 1.0.0: b 3, p 6", "c 1.0.0: b 5, p 4", "b 1.0.0", "p 1.0.0 with b 1.0.0: b 3, z 7", "b 2.0.0", "p 1.0.0 with b 2.0.0: b 5, z 7", "z 1.0.0")
}

// P10.1: rings of edges are as good as any.
func TestRings(t *testing.T) {
	x := of("needs a", "a 1.0.0; needs a, b", "b 1.0.0; needs a, c", "c 1.0.0; likes a, b, c")
	x.solved(t, "rings", "root: a 1", "a 1.0.0: a 1, b 2", "b 1.0.0: a 1, c 3", "c 1.0.0: a 1, b 2, c 3")
	x.solved(t, "fewer rings", "root: a 1", "a 1.0.0: a 1, b 2", "b 1.0.0: a 1, c 3", "c 1.0.0")
	x.refused(t, "a ring that lacks what it needs", "root: a 1", "a 1.0.0: b 2", "b 1.0.0: a 1, c 3", "c 1.0.0: a 1, b 2, c 3")
	// Through two versions of a name.
	y := of("needs a 1.0.0", "a 1.0.0; needs a 2.0.0", "a 2.0.0; needs a 1.0.0")
	y.solved(t, "a ring of two versions", "root: a 1", "a 1.0.0: a 2", "a 2.0.0: a 1")
	y.refused(t, "each to itself", "root: a 1", "a 1.0.0: a 1")
	// Through what is beside it: b needs p, which has b beside it.
	z := of("needs b, p", "b 1.0.0; needs b, p", "p 1.0.0; beside b")
	z.solved(t, "a ring through a context", "root: b 1, p 2", "b 1.0.0: b 1, p 2", "p 1.0.0 with b 1.0.0: b 1")
}

// P10.1: the order of nodes behind the first one says nothing.
func TestAnyOrder(t *testing.T) {
	x := chapter()
	x.solved(t, "another order", "root: a 3, b 1, p 2", "b 1.0.0", "p 1.0.0 with b 1.0.0: b 1", "a 1.0.0: b 1")
	x.solved(t, "another order", "root: a 2, b 3, p 1", "p 1.0.0 with b 1.0.0: b 3", "a 1.0.0: b 3", "b 1.0.0")
	x.refused(t, "the root last", "b 1.0.0", "p 1.0.0 with b 1.0.0: b 0", "a 1.0.0: b 0", "root: a 2, b 0, p 1")
}

// P10.1: all graphs of at most three nodes of two names, in two contexts, with all edges between them, are as the model tells.
func TestAllSmallGraphs(t *testing.T) {
	var texts []string
	for _, context := range []string{"", " with b 1.0.0"} {
		for _, label := range []string{"", "a 1", "a 2"} {
			for _, other := range []string{"", "b 1", "b 2"} {
				texts = append(texts, context+": "+strings.Trim(label+", "+other, ", "))
			}
		}
	}
	all := [][]string{{"a 1.0.0; beside b", "b 1.0.0; likes a"}, {"a 1.0.0; needs b", "b 1.0.0; likes a, b"}, {"a 1.0.0; beside b; likes a", "b 1.0.0; beside b"}}
	// Of three nodes there is each solution twice, in both orders.
	counts := []int{1 + 2*1, 2 + 2*(2+4), 1 + 2*2}
	for i, packages := range all {
		found := 0
		x := of("needs b; likes a", packages...)
		for _, first := range texts[:9] {
			for _, name := range []string{"a", "b"} {
				for _, second := range texts {
					g := drawn("root"+first, name+" 1.0.0"+second)
					found += x.asModel(t, g)
					for _, third := range texts {
						for _, last := range []string{"a", "b"} {
							found += x.asModel(t, drawn("root"+first, name+" 1.0.0"+second, last+" 1.0.0"+third))
						}
					}
				}
			}
		}
		if found != counts[i] {
			t.Errorf("%d solutions of %v, not %d", found, packages, counts[i])
		}
	}
}

// asModel tells a fault unless Check answers as the model; how many solutions there are: one or none.
func (x task) asModel(t *testing.T, g api.Graph) int {
	t.Helper()
	e := graph.Check(g, x.c, x.m, x.dev)
	if broken := x.solvedBy(g); (e == api.OK) != (broken == 0) || e != api.OK && e != api.ErrGraph {
		t.Fatalf("Check of %s for %v: error %d, though condition %d is broken", flat(g), x.m, e, broken)
	}
	if e == api.OK {
		return 1
	}
	return 0
}
