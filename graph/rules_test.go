package graph_test

import (
	"fmt"
	"math"
	"slices"
	"strings"
	"testing"
	"unsafe"

	"halyard/api"
	"halyard/catalog"
	"halyard/graph"
	"halyard/span"
)

// anyGraph is a graph of any nodes, few of which may be.
func (s *source) anyGraph() api.Graph {
	var g api.Graph
	name := func() string { return s.pick(append(noNames(), few...)...) }
	v := func() api.Version { return append(noVersions(), s.someVersion(), api.Version{})[s.below(18)] }
	for range s.below(8) {
		n := api.Node{Name: name(), Version: v()}
		for range s.below(4) {
			n.Context = append(n.Context, api.Pin{Name: name(), Version: v()})
		}
		for range s.below(5) {
			n.Edges = append(n.Edges, api.Edge{Label: name(), To: []int{s.below(8), s.below(8), -1, 1000, math.MinInt, math.MaxInt}[s.below(6)]})
		}
		g.Nodes = append(g.Nodes, n)
	}
	return g
}

// R1: every call ends and none panics, at all arguments, and answers as the model does.
func TestEveryCallEnds(t *testing.T) {
	s := source(10)
	for range 1000 {
		x, g := s.someTask(), s.anyGraph()
		x.asModel(t, g)
		askedAsModel(t, g)
		same(t, "nothing", g, clone(g), true)
		other := s.anyGraph()
		same(t, "much", g, other, flat(g) == flat(other))
		task{c: nil, m: x.m}.answers(t, "any graph without a catalog", g, api.ErrArg)
		if len(g.Nodes) > 0 {
			// With a root it gets further.
			g.Nodes[0] = api.Node{Edges: g.Nodes[0].Edges}
			x.asModel(t, g)
		}
	}
	if graph.Check(api.Graph{}, nil, api.Manifest{}, false) != api.ErrArg {
		t.Error("Check of nothing")
	}
}

// Great things that may not be are answered as soon as small ones.
func TestGreatThings(t *testing.T) {
	const many = 1 << 18
	x := chapter()
	var wide, deep, twice api.Graph
	wide.Nodes = append(wide.Nodes, api.Node{})
	for i := range many {
		wide.Nodes[0].Edges = append(wide.Nodes[0].Edges, api.Edge{Label: fmt.Sprintf("n%06d", i), To: many - i})
		wide.Nodes = append(wide.Nodes, api.Node{Name: fmt.Sprintf("n%06d", many-1-i)})
		deep.Nodes = append(deep.Nodes, api.Node{Name: "a", Version: version(i%7, 0, 0), Edges: []api.Edge{{Label: "a", To: i + 1}, {Label: "b", To: i - 1}}})
		twice.Nodes = append(twice.Nodes, api.Node{Name: "a", Edges: []api.Edge{{To: many - 1 - i}, {To: many / 2}}})
	}
	for what, g := range map[string]api.Graph{"wide": wide, "deep": deep, "alike": twice} {
		x.answers(t, "a great graph", g, api.ErrGraph)
		if !graph.Same(g, clone(g)) {
			t.Errorf("a %s graph is not the same", what)
		}
	}
	if l := graph.Reach(wide); len(l) != many+1 || l[many] != many {
		t.Errorf("Reach of a wide graph: %d", len(l))
	}
	if l := graph.Reach(deep); len(l) != many || l[many-1] != many-1 {
		t.Errorf("Reach of a deep graph: %d", len(l))
	}
	reaches(t, twice, 0, many/2-1, many/2, many-1)
	if l := graph.Pins(wide); len(l) != many || l[0].Name != "n000000" {
		t.Errorf("Pins of a wide graph: %d", len(l))
	}
	if l := graph.Pins(deep); len(l) != 7 || l[6].Version != version(6, 0, 0) {
		t.Errorf("Pins of a deep graph: %v", l)
	}
	if graph.Find(wide, "n000000", api.Version{}, nil) != many || graph.Find(deep, "b", api.Version{}, nil) != -1 {
		t.Error("Find in a great graph")
	}
	// Few nodes with great lists.
	great := drawn(right()...)
	great.Nodes[3].Context = make([]api.Pin, many)
	x.answers(t, "a great context", great, api.ErrGraph)
	great = drawn(right()...)
	great.Nodes[3].Edges = slices.Repeat(edges("b 2"), many)
	x.answers(t, "many edges", great, api.ErrGraph)
	reaches(t, great, 0, 1, 2, 3)
	great = drawn(right()...)
	great.Nodes[1].Name = strings.Repeat("a", 1<<24)
	x.answers(t, "a great name", great, api.ErrGraph)
}

// full is a task, and its solution, as great as may be: a ring of packages beside one another, of which each has all in its context, and a chain of others, each of which needs the next one and the whole ring.
func full() (task, api.Graph) {
	const ringed, chained = 30, 97
	var context, led, needs, likes []string
	for i := range ringed {
		context = append(context, fmt.Sprintf("m%02d 1.0.0", i))
		led = append(led, fmt.Sprintf("m%02d %d", i, i+1))
		if i < 15 {
			needs = append(needs, fmt.Sprintf("m%02d", i))
		} else {
			likes = append(likes, fmt.Sprintf("m%02d", i))
		}
	}
	ring := strings.Join(led, ", ")
	nodes := []string{"root: " + ring + fmt.Sprintf(", n00 %d", ringed+1)}
	var all []string
	for i := range ringed {
		all = append(all, fmt.Sprintf("m%02d 1.0.0; beside m%02d", i, (i+1)%ringed))
		nodes = append(nodes, context[i]+" with "+strings.Join(context, ", ")+": "+ring)
	}
	wanted := "needs " + strings.Join(needs, ", ") + ", n%02d; likes " + strings.Join(likes, ", ")
	for i := range chained {
		// The last one needs the first one.
		next := (i + 1) % chained
		all = append(all, fmt.Sprintf("n%02d 1.0.0; "+wanted, i, next))
		nodes = append(nodes, fmt.Sprintf("n%02d 1.0.0: %s, n%02d %d", i, ring, next, next+ringed+1))
	}
	return of(fmt.Sprintf(wanted, 0), all...), drawn(nodes...)
}

// R1: a solution of MaxNodes nodes with far more edges, each to a great context, is told soon enough.
func TestFull(t *testing.T) {
	x, g := full()
	if len(g.Nodes) != api.MaxNodes {
		t.Fatal(len(g.Nodes))
	}
	x.answers(t, "a full graph", g, api.OK)
	for i := range g.Nodes {
		other := clone(g)
		last := len(other.Nodes[i].Edges) - 1
		if i > 0 && len(g.Nodes[i].Context) == 0 {
			other.Nodes[i].Edges[last].To--
		} else {
			other.Nodes[i].Edges = other.Nodes[i].Edges[:last]
		}
		x.answers(t, "a full graph with one edge changed", other, api.ErrGraph)
	}
}

// inRoom is a list with marks in its spare room.
func inRoom[T any](l []T, mark T) []T { return slices.Concat(l, []T{mark, mark, mark})[:len(l)] }

// roomy is a graph with marks in the spare room of its lists, at both depths.
func roomy(g api.Graph) api.Graph {
	room := api.Graph{Nodes: inRoom(g.Nodes, api.Node{Name: "mark"})}
	for i, n := range room.Nodes {
		room.Nodes[i].Context, room.Nodes[i].Edges = inRoom(n.Context, api.Pin{Name: "mark"}), inRoom(n.Edges, api.Edge{Label: "mark", To: 7})
	}
	return room
}

// whole is a graph and its spare room, at both depths, as a text.
func whole(g api.Graph) string {
	s := ""
	for _, n := range g.Nodes[:cap(g.Nodes)] {
		s += fmt.Sprint(n.Name, n.Version, n.Context[:cap(n.Context)], n.Edges[:cap(n.Edges)])
	}
	return s
}

// roomyDeps is Deps with marks in their spare room, at both depths.
func roomyDeps(l []api.Dep) []api.Dep {
	room := inRoom(l, api.Dep{Name: "mark"})
	for i, d := range room {
		room[i].Range = inRoom(d.Range, api.Span{Lo: version(-7, 0, 0)})
	}
	return room
}

// wholeDeps is Deps and their spare room, at both depths, as a text.
func wholeDeps(l []api.Dep) string {
	s := ""
	for _, d := range l[:cap(l)] {
		s += fmt.Sprint(d.Name, d.Range[:cap(d.Range)])
	}
	return s
}

func projectLists(m *api.Manifest) []*[]api.Dep {
	return []*[]api.Dep{&m.Deps, &m.Dev, &m.Optional, &m.Overrides}
}

func spoilPins(l []api.Pin) {
	l = l[:cap(l)]
	for i := range l {
		l[i] = api.Pin{Name: "spoilt", Version: version(-1, -1, -1)}
	}
}

func spoilNumbers(l []int) {
	l = l[:cap(l)]
	for i := range l {
		l[i] = -99
	}
}

// spoilAll asks all that may be asked, and writes over all that is told.
func spoilAll(x task, g api.Graph) {
	graph.Check(g, x.c, x.m, x.dev)
	graph.Same(g, g)
	spoilNumbers(graph.Reach(g))
	spoilPins(graph.Pins(g))
	for _, n := range g.Nodes {
		graph.Find(g, n.Name, n.Version, n.Context)
	}
}

// R4: what is handed in stays as it is, its spare room too, whoever writes into what was told.
func TestHandedInStays(t *testing.T) {
	tasks, graphs := solutions(11, 150)
	s := source(12)
	for i, x := range tasks {
		for _, g := range []api.Graph{graphs[i], s.broken(graphs[i]), s.anyGraph()} {
			given := roomy(g)
			for _, l := range projectLists(&x.m) {
				*l = roomyDeps(*l)
			}
			look := func() string {
				text := whole(given) + fmt.Sprint(x.c.All())
				for _, l := range projectLists(&x.m) {
					text += wholeDeps(*l)
				}
				return text
			}
			want := look()
			spoilAll(x, given)
			if got := look(); got != want {
				t.Fatalf("what was handed in is changed: %q, not %q", got, want)
			}
		}
	}
}

// R4: the context that Find is handed stays as it is, its spare room too.
func TestFindLeavesContext(t *testing.T) {
	l := inRoom(pins("a 1.2.3, b 0.0.0"), pin("mark 1.0.0"))
	want := fmt.Sprint(l[:cap(l)])
	if graph.Find(base(), "p", numbers("9.0.10"), l) != 3 || fmt.Sprint(l[:cap(l)]) != want {
		t.Errorf("the context is %v, not %s", l[:cap(l)], want)
	}
}

// R4: what is answered is new memory: whoever writes into it changes nothing of what is told later, or was told before, and it stays when what was handed in is changed.
func TestAnswersAreNew(t *testing.T) {
	_, graphs := solutions(13, 100)
	for _, g := range graphs {
		x := chapter()
		places, l := graph.Reach(g), graph.Pins(g)
		want := fmt.Sprint(places, l)
		spoilAll(x, g)
		if got := fmt.Sprint(graph.Reach(g), graph.Pins(g)); fmt.Sprint(places, l) != want || got != want {
			t.Fatalf("what was told is changed: %v, %v; %s, not %s", places, l, got, want)
		}
		for i := range g.Nodes {
			spoilPins(g.Nodes[i].Context)
			g.Nodes[i] = api.Node{Name: "spoilt"}
		}
		if fmt.Sprint(places, l) != want {
			t.Fatalf("what was told is changed by what was handed in: %v, %v, not %s", places, l, want)
		}
	}
}

// R4: no name that is told stands in the memory of what was handed in, or of another answer.
func TestTextsAreNew(t *testing.T) {
	g := drawn("root: a 1", "a 1.0.0 with b 1.0.0: b 2", "b 1.0.0", "a 2.0.0", "a 2.0.0")
	times := map[*byte]int{}
	for _, n := range g.Nodes {
		if n.Name != "" {
			times[unsafe.StringData(n.Name)]++
		}
	}
	for range 2 {
		for _, p := range graph.Pins(g) {
			at := unsafe.StringData(p.Name)
			if times[at] > 0 {
				t.Errorf("the name %s stands where another one does", p.Name)
			}
			times[at]++
		}
	}
}

// R4: nil and empty lists are one.
func TestNilAndEmpty(t *testing.T) {
	c := stocked("a 1.0.0", "b 1.0.0; beside a")
	for _, context := range [][]api.Pin{nil, {}, make([]api.Pin, 0, 5)} {
		for _, l := range [][]api.Edge{nil, {}, make([]api.Edge, 0, 5)} {
			for _, deps := range [][]api.Dep{nil, {}, make([]api.Dep, 0, 5)} {
				m := api.Manifest{Deps: []api.Dep{{Name: "a", Range: span.All()}}, Dev: deps, Optional: deps, Overrides: deps}
				g := api.Graph{Nodes: []api.Node{{Context: context, Edges: edges("a 1")}, {Name: "a", Version: version(1, 0, 0), Context: context, Edges: l}}}
				task{c: c, m: m}.answers(t, "empty lists", g, api.OK)
				same(t, "empty lists", g, drawn("root: a 1", "a 1.0.0"), true)
				if graph.Find(g, "a", version(1, 0, 0), nil) != 1 || graph.Find(drawn("root", "a 1.0.0"), "a", version(1, 0, 0), context) != 1 {
					t.Error("Find with an empty context")
				}
			}
		}
	}
	for _, nodes := range [][]api.Node{nil, {}, make([]api.Node, 0, 5)} {
		g := api.Graph{Nodes: nodes}
		task{c: c}.answers(t, "no nodes", g, api.ErrGraph)
		same(t, "no nodes", g, api.Graph{}, true)
		reaches(t, g)
		pinned(t, g, "")
		finds(t, g, " 0.0.0", "", -1)
	}
}

// R5: what is told hangs on no order in which packages came, and is the same each time it is asked.
func TestSameAgain(t *testing.T) {
	tasks, graphs := solutions(14, 60)
	s := source(15)
	for i, x := range tasks {
		all := x.c.All()
		slices.Reverse(all)
		again := x
		again.c = filled(all...)
		for range 20 {
			g := s.broken(graphs[i])
			e := graph.Check(g, x.c, x.m, x.dev)
			again.answers(t, "the same graph again", roomy(g), e)
			x.answers(t, "the same graph again", g, e)
		}
	}
}

// R5: the catalog is only asked: what is put into it later counts then.
func TestCatalogIsAsked(t *testing.T) {
	x := task{c: catalog.New(), m: project("needs a")}
	x.refused(t, "a that is not there yet", "root: a 1", "a 1.0.0")
	if e := x.c.Put(packed("a 1.0.0")); e != api.OK {
		t.Fatal(e)
	}
	x.solved(t, "a that is there", "root: a 1", "a 1.0.0")
}

// The limits and errors of this layer.
func TestLimits(t *testing.T) {
	if api.MaxNodes != 128 || api.MaxPackages != 128 || api.OK != 0 || api.ErrArg != 1 || api.ErrGraph != 33 || api.WantMust != 1 || api.WantMay != 2 {
		t.Error("limits:", api.MaxNodes, api.MaxPackages, api.OK, api.ErrArg, api.ErrGraph, api.WantMust, api.WantMay)
	}
}
