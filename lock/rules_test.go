package lock_test

import (
	"math"
	"slices"
	"strings"
	"testing"
	"unsafe"

	"halyard/api"
	"halyard/lock"
)

// anyGraph is a graph of any numbers, texts and lists.
func (s *source) anyGraph() api.Graph {
	of := []int{0, 1, 2, 5, 999, 1000, -1, math.MinInt, math.MaxInt}
	number := func() int { return of[s.below([]int{3, len(of)}[s.below(2)])] }
	name := func() string {
		return s.pick("a", "b", "c", "d", "a", "b", "c", "d", "", "A", "\xff", "a b", "x\n")
	}
	var g api.Graph
	for i := range s.below(4) {
		n := api.Node{Name: name(), Version: version(number(), number(), number())}
		if i == 0 && s.below(4) > 0 {
			n = api.Node{}
		}
		for range s.below(4) / 2 {
			n.Context = append(n.Context, api.Pin{Name: name(), Version: version(number(), 0, 0)})
		}
		for range s.below(3) {
			n.Edges = append(n.Edges, api.Edge{Label: name(), To: number()})
		}
		g.Nodes = append(g.Nodes, n)
	}
	return g
}

// R1, R2, R6: every call ends and none panics, at all arguments; beside an error all else is zero. A graph has the form just if its text is one.
func TestEveryCallEnds(t *testing.T) {
	s := source(5)
	met := 0
	for range 50000 {
		g := s.anyGraph()
		_, e := model(text(g))
		want := e == api.OK && (g.Nodes[0].Name == "" && g.Nodes[0].Version == api.Version{})
		if want {
			met++
			mayBe(t, short(text(g)), g)
		} else {
			mayNotBe(t, short(text(g)), g)
		}
	}
	if met < 1000 {
		t.Errorf("%d graphs have the form", met)
	}
	for range 50000 {
		var b strings.Builder
		for range s.below(14) {
			b.WriteString(s.pick("lock", "root", "node", "with", "to", "a", "1", "1.0.0", " ", " ", "\n", "\n", "\x00", "\xff", "lock\nroot\n", "node b 1.0.0\n", "to b 1\n", "with b 1.0.0\n"))
		}
		want, e := model(b.String())
		if g, got := lock.Parse(b.String()); got != e || !same(g, want) {
			t.Fatalf("Parse(%q): %q, error %d, not error %d", b.String(), text(g), got, e)
		}
	}
}

// Great things are refused as soon as small ones.
func TestGreatThings(t *testing.T) {
	great := strings.Repeat("a", 1<<24)
	mayNotBe(t, "a great name", graph(api.Node{}, api.Node{Name: great}))
	mayNotBe(t, "a great name of the first", graph(api.Node{Name: great}))
	mayNotBe(t, "a great label", withEdges(2, 0, []api.Edge{{Label: great, To: 1}}))
	mayNotBe(t, "a great name of a pin", withContext([]api.Pin{{Name: great}}))
	mayNotBe(t, "a great graph", graph(make([]api.Node, 1<<20)...))
	mayNotBe(t, "a great context", withContext(make([]api.Pin, 1<<20)))
	mayNotBe(t, "a great list of edges", withEdges(2, 0, make([]api.Edge, 1<<20)))
	refuses(t, great, api.ErrText)
}

// roomy is a graph whose lists stand in the middle of more memory, at both depths: all of the memory is answered beside it, as a graph.
func roomy(g api.Graph) (api.Graph, api.Graph) {
	more := []api.Node{{Name: "ahead"}}
	for _, n := range g.Nodes {
		context := slices.Concat(pins("ahead"), n.Context, pins("behind", "behind"))
		out := slices.Concat(edges("ahead"), n.Edges, edges("behind", "behind"))
		n.Context, n.Edges = context[1:1+len(n.Context)], out[1:1+len(n.Edges)]
		more = append(more, n)
	}
	more = append(more, api.Node{Name: "behind"}, api.Node{Name: "behind"})
	return api.Graph{Nodes: more[1 : 1+len(g.Nodes)]}, api.Graph{Nodes: more}
}

// whole is a copy of a graph's lists with the spare room of each.
func whole(g api.Graph) api.Graph {
	g = clone(g)
	for i, n := range g.Nodes {
		g.Nodes[i].Context, g.Nodes[i].Edges = slices.Clone(n.Context[:cap(n.Context)]), slices.Clone(n.Edges[:cap(n.Edges)])
	}
	return g
}

// R4: what is handed in stays as it is, its spare room too.
func TestHandedInStays(t *testing.T) {
	s := source(6)
	l := append(graphs()[:300], api.Graph{}, sized(129), withContext(pins("b", "a")), withContext(pins("a", "a")), withEdges(3, 0, edges("b", "a")), withEdges(3, 1, edges("a", "a")), withEdges(3, 2, edges("a 3")))
	for range 300 {
		l = append(l, s.anyGraph())
	}
	for _, g := range l {
		given, memory := roomy(g)
		want := whole(memory)
		lock.May(given)
		lock.Print(given)
		if !same(whole(memory), want) {
			t.Fatalf("%s: what was handed in is changed", short(text(g)))
		}
	}
}

func spoilPins(l []api.Pin) {
	for i := range l[:cap(l)] {
		l[:cap(l)][i] = api.Pin{Name: "spoilt", Version: version(-1, i, 0)}
	}
}

func spoilEdges(l []api.Edge) {
	for i := range l[:cap(l)] {
		l[:cap(l)][i] = api.Edge{Label: "spoilt", To: -1 - i}
	}
}

// spoil writes over all of a graph's lists and their spare room, at both depths.
func spoil(g api.Graph) {
	l := g.Nodes[:cap(g.Nodes)]
	for i, n := range l {
		spoilPins(n.Context)
		spoilEdges(n.Edges)
		l[i] = api.Node{Name: "spoilt"}
	}
}

// R4: what Parse answers is new memory, and Print does not keep what it was handed.
func TestAnswersAreNew(t *testing.T) {
	for _, g := range graphs()[:300] {
		s := text(g)
		kept, _ := lock.Parse(s)
		other, _ := lock.Parse(s)
		spoil(other)
		if !same(kept, g) {
			t.Fatalf("Parse(%s) shares memory with the same call", short(s))
		}
		given := clone(g)
		printed, _ := lock.Print(given)
		spoil(given)
		if printed != s {
			t.Fatalf("Print of what is spoilt behind it: %s, not %s", short(printed), short(s))
		}
		reads(t, s, g)
		mayBe(t, short(s), g)
	}
}

// R4: no two lists of one answer share memory, their spare room neither.
func TestListsShareNothing(t *testing.T) {
	for _, g := range graphs()[:300] {
		s := text(g)
		got, _ := lock.Parse(s)
		want := clone(g)
		for i := range want.Nodes {
			n, w := &got.Nodes[i], &want.Nodes[i]
			spoilPins(n.Context)
			n.Context, w.Context = nil, nil
			if !same(got, want) {
				t.Fatalf("Parse(%s): the context of node %d shares memory with another list", short(s), i)
			}
			spoilEdges(n.Edges)
			n.Edges, w.Edges = nil, nil
			if !same(got, want) {
				t.Fatalf("Parse(%s): the edges of node %d share memory with another list", short(s), i)
			}
		}
	}
}

// within tells whether a text's bytes stand in another one's memory.
func within(s, memory string) bool {
	at, from := uintptr(unsafe.Pointer(unsafe.StringData(s))), uintptr(unsafe.Pointer(unsafe.StringData(memory)))
	return s != "" && at >= from && at < from+uintptr(len(memory))
}

// R4: no name of an answer stands in the memory of the text that was handed in, and no text in that of a name.
func TestTextsAreNew(t *testing.T) {
	for _, g := range graphs()[:300] {
		s := text(g)
		got, _ := lock.Parse(s)
		var all []string
		for _, n := range got.Nodes {
			all = append(all, n.Name)
			for _, p := range n.Context {
				all = append(all, p.Name)
			}
			for _, e := range n.Edges {
				all = append(all, e.Label)
			}
		}
		printed, _ := lock.Print(got)
		for _, name := range all {
			if within(name, s) || within(name, printed) {
				t.Fatalf("the name %s stands in the memory of %s", name, short(s))
			}
		}
	}
}

// R4: nil and empty lists are one, of the first node and of others.
func TestNilAndEmpty(t *testing.T) {
	for _, context := range [][]api.Pin{nil, {}, make([]api.Pin, 0, 5)} {
		for _, l := range [][]api.Edge{nil, {}, make([]api.Edge, 0, 5)} {
			root := api.Node{Context: context, Edges: l}
			mayBe(t, "a root of nothing", graph(root))
			mayBe(t, "nodes of nothing", graph(root, api.Node{Name: "a", Context: context, Edges: l}))
			reads(t, head, graph(root))
			reads(t, head+"node a 0.0.0\n", graph(root, api.Node{Name: "a", Context: context, Edges: l}))
		}
	}
	for _, nodes := range [][]api.Node{nil, {}, make([]api.Node, 0, 5)} {
		mayNotBe(t, "no node", api.Graph{Nodes: nodes})
	}
}

// R5: the same is answered again, whatever was asked in between and however much spare room there is.
func TestSameAgain(t *testing.T) {
	for _, g := range graphs()[:300] {
		s := text(g)
		mayBe(t, short(s), g)
		reads(t, s, g)
		refuses(t, head+"node b 1.0.0\nto a 2\n", api.ErrLine)
		refuses(t, s+"x\n", api.ErrLine)
		mayNotBe(t, "another one", withContext(pins("b", "a")))
		given, _ := roomy(g)
		mayBe(t, short(s), given)
		reads(t, s, g)
	}
}

// The limits and errors of this layer.
func TestLimits(t *testing.T) {
	if api.MaxNodes != 128 || api.MaxName != 16 || api.MaxPart != 999 {
		t.Error("limits:", api.MaxNodes, api.MaxName, api.MaxPart)
	}
	if api.OK != 0 || api.ErrLine != 22 || api.ErrText != 25 || api.ErrGraph != 33 {
		t.Error("errors:", api.OK, api.ErrLine, api.ErrText, api.ErrGraph)
	}
}
