package lock_test

import (
	"fmt"
	"math"
	"slices"
	"strings"
	"testing"

	"halyard/api"
)

// P7.1: how many nodes a graph may have.
func TestHowManyNodes(t *testing.T) {
	for _, count := range []int{1, 2, 3, 127, 128} {
		mayBe(t, fmt.Sprint(count, " nodes"), sized(count))
	}
	for _, count := range []int{0, 129, 130, 256, 1000} {
		mayNotBe(t, fmt.Sprint(count, " nodes"), sized(count))
	}
	mayNotBe(t, "no node, not nil", graph([]api.Node{}...))
	mayBe(t, "as much as may be", greatest())
}

// P7.1: the first node has no Name, no Version, no Context.
func TestFirstNode(t *testing.T) {
	for _, count := range []int{1, 2, 128} {
		change := func(what string, f func(*api.Node)) {
			t.Helper()
			g := sized(count)
			f(&g.Nodes[0])
			mayNotBe(t, what, g)
		}
		change("a name", func(n *api.Node) { n.Name = "a" })
		change("the name root", func(n *api.Node) { n.Name = "root" })
		for _, name := range noNames()[1:] {
			change("a name that may not be", func(n *api.Node) { n.Name = name })
		}
		for _, v := range append(noVersions(), version(1, 0, 0), version(0, 1, 0), version(0, 0, 1), version(999, 999, 999), version(0, 0, -1)) {
			change("the version "+dotted(v), func(n *api.Node) { n.Version = v })
		}
		change("a context", func(n *api.Node) { n.Context = pins("b") })
		change("a context of 0.0.0", func(n *api.Node) { n.Context = pins("b 0.0.0") })
		change("a zero pin", func(n *api.Node) { n.Context = make([]api.Pin, 1) })
		change("all of it", func(n *api.Node) { *n = node("a 1.0.0") })
	}
	mayNotBe(t, "a graph whose root is the second one", graph(node("a"), api.Node{}))
}

// P7.1: each later node has a Name and a Version that may be, whichever it is.
func TestLaterNodes(t *testing.T) {
	for _, at := range []int{1, 2, 3} {
		for _, name := range noNames() {
			g := sized(4)
			g.Nodes[at].Name = name
			mayNotBe(t, fmt.Sprintf("the name %.20q at %d", name, at), g)
		}
		for _, v := range noVersions() {
			g := sized(4)
			g.Nodes[at].Version = v
			mayNotBe(t, fmt.Sprintf("the version %s at %d", dotted(v), at), g)
		}
		g := sized(4)
		g.Nodes[at] = api.Node{}
		mayNotBe(t, "a second root", g)
		for _, s := range []string{"a 0.0.0", "a 999.999.999", "abcdefghijklmnop 0.0.1", "a-1 10.100.7", "z- 1.0.0", "root 1.0.0", "node 1.0.0", "lock 0.0.0"} {
			g := sized(4)
			g.Nodes[at] = node(s)
			mayBe(t, s, g)
		}
	}
	mayBe(t, "nodes that are the same, and do not rise", graph(api.Node{}, node("b"), node("a 2.0.0"), node("a 1.0.0"), node("b"), node("b")))
}

// P7.1: how many Pins and Edges a node may have.
func TestHowManyEach(t *testing.T) {
	for _, count := range []int{0, 1, 2, 127, 128, 129, 130, 1000} {
		check := mayBe
		if count > 128 {
			check = mayNotBe
		}
		check(t, fmt.Sprint(count, " pins"), withContext(pins(names(count)...)))
		for _, at := range []int{0, 1, 2} {
			check(t, fmt.Sprint(count, " edges of ", at), withEdges(3, at, edges(names(count)...)))
		}
		last := sized(128)
		last.Nodes[127].Context = pins(names(count)...)
		check(t, fmt.Sprint(count, " pins of the last"), last)
	}
	g := withContext(pins(names(128)...))
	g.Nodes[1].Edges = edges(names(128)...)
	mayBe(t, "both full", g)
}

// P7.1: Pins have Versions that may be, wherever they stand.
func TestVersionsOfPins(t *testing.T) {
	for _, v := range noVersions() {
		for at := range 3 {
			l := pins("a", "b", "c")
			l[at].Version = v
			mayNotBe(t, fmt.Sprintf("a pin of %s at %d", dotted(v), at), withContext(l))
		}
	}
	mayBe(t, "all versions", withContext(pins("a 0.0.0", "b 999.999.999", "c 0.0.0", "d 1.10.100")))
	mayBe(t, "a pin of the node's own name", withContext(pins("a 1.0.0")))
}

// P7.1: Names of Pins and Labels may be, wherever they stand.
func TestNamesOfLists(t *testing.T) {
	for _, name := range noNames() {
		for at := range 3 {
			p, e := pins("a", "b", "c"), edges("a", "b", "c")
			p[at].Name, e[at].Label = name, name
			mayNotBe(t, fmt.Sprintf("a pin %.20q at %d", name, at), withContext(p))
			for n := range 3 {
				mayNotBe(t, fmt.Sprintf("a label %.20q at %d", name, at), withEdges(3, n, e))
			}
		}
		// Alone, so that no other name stands beside it.
		mayNotBe(t, fmt.Sprintf("one pin %.20q", name), withContext([]api.Pin{{Name: name}}))
		mayNotBe(t, fmt.Sprintf("one label %.20q", name), withEdges(3, 0, []api.Edge{{Label: name, To: 1}}))
	}
}

// P7.1: Names of Pins rise byte by byte, each once; Labels likewise.
func TestNamesRise(t *testing.T) {
	rising := [][]string{{"a", "b"}, {"a", "a-", "a-b", "a0", "a9", "aa", "b"}, {"a", "aa", "aaa"}, {"a9", "aa"}, {"a-", "a0"}, {"x10", "x9"}, {"abcdefghijklmno", "abcdefghijklmnop"}}
	falling := [][]string{{"b", "a"}, {"a", "a"}, {"a", "b", "b"}, {"a", "a", "b"}, {"a", "c", "b"}, {"b", "a", "c"}, {"aa", "a"}, {"aa", "a9"}, {"a0", "a-"}, {"x9", "x10"}, {"a", "b", "a"}, {"a", "b", "c", "d", "e", "e"}}
	falling = append(falling, slices.Concat(names(127), []string{"a"}), slices.Concat(names(127), []string{"n0126"}))
	for _, l := range rising {
		what := strings.Join(l, " ")
		mayBe(t, what, withContext(pins(l...)))
		for n := range 3 {
			mayBe(t, what, withEdges(3, n, edges(l...)))
		}
	}
	for _, l := range falling {
		what := strings.Join(l, " ")
		mayNotBe(t, what, withContext(pins(l...)))
		for n := range 3 {
			mayNotBe(t, what, withEdges(3, n, edges(l...)))
		}
	}
	mayNotBe(t, "a pin twice, with two versions", withContext(pins("a 1.0.0", "a 2.0.0")))
	mayNotBe(t, "a label twice, to two nodes", withEdges(3, 0, edges("a 1", "a 2")))
	mayBe(t, "versions that fall", withContext(pins("a 2.0.0", "b 1.0.0")))
	mayBe(t, "numbers that fall", withEdges(3, 0, edges("a 2", "b 1", "c 2")))
}

// P7.1: the order of one list is nothing to the next one's.
func TestListsApart(t *testing.T) {
	mayBe(t, "lists of the same names, and of lesser ones", graph(
		api.Node{Edges: edges("x", "y")},
		api.Node{Name: "b", Context: pins("x", "y"), Edges: edges("x", "y")},
		api.Node{Name: "a", Context: pins("a", "b"), Edges: edges("a", "b")},
		api.Node{Name: "a", Context: pins("a", "b"), Edges: edges("a", "b")}))
}

// P7.1: To is the number of a node behind the first one.
func TestWhereEdgesLead(t *testing.T) {
	for _, count := range []int{1, 2, 3, 127, 128} {
		for _, at := range []int{0, count / 2, count - 1} {
			for _, to := range []int{1, 2, count / 2, count - 2, count - 1, 0, -1, -count, count, count + 1, 128, 129, 1000, math.MinInt, math.MaxInt, 1<<32 + 1, 1<<8 + 1} {
				check := mayNotBe
				if 1 <= to && to < count {
					check = mayBe
				}
				g := withEdges(count, at, []api.Edge{{Label: "a", To: to}})
				check(t, fmt.Sprintf("an edge from %d to %d of %d", at, to, count), g)
				g.Nodes[at].Edges = []api.Edge{{Label: "a", To: 1}, {Label: "b", To: to}, {Label: "c", To: 1}}
				if count > 1 {
					check(t, fmt.Sprintf("a second edge from %d to %d of %d", at, to, count), g)
				}
			}
		}
	}
}

// P7.1: whether it is a solution is not asked: labels may be others than the names of nodes, nodes not be reached, contexts have no edge.
func TestNoSolutions(t *testing.T) {
	mayBe(t, "a label of another name", graph(api.Node{Edges: edges("b 1")}, node("a")))
	mayBe(t, "a node that is not reached", sized(2))
	mayBe(t, "a context without an edge", withContext(pins("x")))
	mayBe(t, "an edge to itself", graph(api.Node{}, api.Node{Name: "a", Edges: edges("a 1")}))
}

// P7.1: what Print writes, byte for byte.
func TestPrint(t *testing.T) {
	const want = "lock\nroot\nto a 1\nto b 2\nto p 3\nnode a 1.2.3\nto b 2\nnode b 0.0.0\nnode p 999.0.10\nwith a 1.2.3\nwith b 0.0.0\nto a 1\nto b 2\nto q 4\nnode q 2.0.0\nwith p 999.0.10\nto p 3\nto q 4\n"
	if text(base()) != want {
		t.Fatalf("the tests' own text is %q", text(base()))
	}
	mayBe(t, "a graph with some of all", base())
	mayBe(t, "numbers of three digits", withEdges(128, 0, edges("a 1", "b 9", "c 10", "d 99", "e 100", "f 127")))
}

// P7.1: May and Print of graphs that look like chance.
func TestSomeGraphs(t *testing.T) {
	s := source(1)
	for range 3000 {
		g := s.someGraph()
		mayBe(t, short(text(g)), g)
	}
}
