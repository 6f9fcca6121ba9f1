package lock_test

import (
	"fmt"
	"math"
	"regexp"
	"slices"
	"strconv"
	"strings"
	"testing"

	"halyard/api"
	"halyard/lock"
)

func version(major, minor, patch int) api.Version {
	return api.Version{Major: major, Minor: minor, Patch: patch}
}

// pins is a context: each text is a name, and perhaps a version behind a blank; else it is 1.0.0.
func pins(texts ...string) []api.Pin {
	var l []api.Pin
	for _, s := range texts {
		name, v, some := strings.Cut(s, " ")
		p := api.Pin{Name: name, Version: version(1, 0, 0)}
		if some {
			p.Version = numbers(v)
		}
		l = append(l, p)
	}
	return l
}

// edges is a list of edges: each text is a label, and perhaps a number behind a blank; else it leads to 1.
func edges(texts ...string) []api.Edge {
	var l []api.Edge
	for _, s := range texts {
		label, to, some := strings.Cut(s, " ")
		e := api.Edge{Label: label, To: 1}
		if some {
			e.To, _ = strconv.Atoi(to)
		}
		l = append(l, e)
	}
	return l
}

// numbers is the version of a text of the tests.
func numbers(s string) api.Version {
	var v api.Version
	if _, err := fmt.Sscanf(s, "%d.%d.%d", &v.Major, &v.Minor, &v.Patch); err != nil {
		panic(s)
	}
	return v
}

// node is a node of name and version, without context and edges.
func node(s string) api.Node {
	p := pins(s)[0]
	return api.Node{Name: p.Name, Version: p.Version}
}

func graph(nodes ...api.Node) api.Graph { return api.Graph{Nodes: nodes} }

// sized is a graph of so many nodes without anything.
func sized(count int) api.Graph {
	var g api.Graph
	for i := range count {
		g.Nodes = append(g.Nodes, api.Node{Name: "a", Version: version(i, 0, 0)})
	}
	if count > 0 {
		g.Nodes[0] = api.Node{}
	}
	return g
}

// withContext is a graph of three nodes whose second one has that context.
func withContext(l []api.Pin) api.Graph {
	g := sized(3)
	g.Nodes[1].Context = l
	return g
}

// withEdges is a graph of so many nodes, of which the one at that place has those edges.
func withEdges(count, at int, l []api.Edge) api.Graph {
	g := sized(count)
	g.Nodes[at].Edges = l
	return g
}

// names is so many names that rise.
func names(count int) []string {
	var l []string
	for i := range count {
		l = append(l, fmt.Sprintf("n%04d", i))
	}
	return l
}

// base is a graph with some of all.
func base() api.Graph {
	return graph(
		api.Node{Edges: edges("a 1", "b 2", "p 3")},
		api.Node{Name: "a", Version: version(1, 2, 3), Edges: edges("b 2")},
		api.Node{Name: "b", Version: version(0, 0, 0)},
		api.Node{Name: "p", Version: version(999, 0, 10), Context: pins("a 1.2.3", "b 0.0.0"), Edges: edges("a 1", "b 2", "q 4")},
		api.Node{Name: "q", Version: version(2, 0, 0), Context: pins("p 999.0.10"), Edges: edges("p 3", "q 4")})
}

// greatest is a graph that has as much as it may, in words as long as they may be.
func greatest() api.Graph {
	last := version(999, 999, 999)
	g := graph(api.Node{})
	for len(g.Nodes) < 128 {
		n := api.Node{Name: strings.Repeat("z", 16), Version: last}
		for i := range 128 {
			n.Context = append(n.Context, api.Pin{Name: fmt.Sprintf("a%015d", i), Version: last})
		}
		g.Nodes = append(g.Nodes, n)
	}
	for i := range g.Nodes {
		for j := range 128 {
			g.Nodes[i].Edges = append(g.Nodes[i].Edges, api.Edge{Label: fmt.Sprintf("b%015d", j), To: 127})
		}
	}
	return g
}

// text is a graph as it is to be written, whether it has the form or not.
func text(g api.Graph) string {
	var b strings.Builder
	b.WriteString("lock\n")
	for i, n := range g.Nodes {
		if i == 0 {
			b.WriteString("root\n")
		} else {
			fmt.Fprintf(&b, "node %s %s\n", n.Name, dotted(n.Version))
		}
		for _, p := range n.Context {
			fmt.Fprintf(&b, "with %s %s\n", p.Name, dotted(p.Version))
		}
		for _, e := range n.Edges {
			fmt.Fprintf(&b, "to %s %d\n", e.Label, e.To)
		}
	}
	return b.String()
}

func dotted(v api.Version) string { return fmt.Sprintf("%d.%d.%d", v.Major, v.Minor, v.Patch) }

// same tells whether two graphs are the same, by the tests' own means; nil and empty lists are one.
func same(a, b api.Graph) bool {
	return slices.EqualFunc(a.Nodes, b.Nodes, func(a, b api.Node) bool {
		return a.Name == b.Name && a.Version == b.Version && slices.Equal(a.Context, b.Context) && slices.Equal(a.Edges, b.Edges)
	})
}

// clone is a graph in memory of its own, at every depth.
func clone(g api.Graph) api.Graph {
	g.Nodes = slices.Clone(g.Nodes)
	for i, n := range g.Nodes {
		g.Nodes[i].Context, g.Nodes[i].Edges = slices.Clone(n.Context), slices.Clone(n.Edges)
	}
	return g
}

var (
	nameForm = regexp.MustCompile(`^[a-z][a-z0-9-]{0,15}$`)
	lineForm = regexp.MustCompile(`^(lock|root|(node|with) [^ ]+ (0|[1-9]\d{0,2})\.(0|[1-9]\d{0,2})\.(0|[1-9]\d{0,2})|to [^ ]+ [1-9]\d{0,2})\n$`)
	// Of the lines' first letters.
	orderForm = regexp.MustCompile(`^lrt*(nw*t*)*$`)
)

// model is what Parse must answer, by the tests' own means.
func model(whole string) (api.Graph, api.Errno) {
	if len(whole) > 1048576 {
		return api.Graph{}, api.ErrText
	}
	lines := strings.SplitAfter(whole, "\n")
	lines = lines[:len(lines)-1]
	order := ""
	for _, s := range lines {
		if !lineForm.MatchString(s) {
			return api.Graph{}, api.ErrLine
		}
		order += s[:1]
	}
	if strings.Join(lines, "") != whole || !orderForm.MatchString(order) {
		return api.Graph{}, api.ErrLine
	}
	var g api.Graph
	for i, s := range lines[1:] {
		words := strings.Fields(s)
		last := len(g.Nodes) - 1
		switch order[i+1] {
		case 'r':
			g.Nodes = append(g.Nodes, api.Node{})
		case 'n':
			g.Nodes = append(g.Nodes, node(words[1]+" "+words[2]))
		case 'w':
			g.Nodes[last].Context = append(g.Nodes[last].Context, pins(words[1]+" "+words[2])...)
		case 't':
			g.Nodes[last].Edges = append(g.Nodes[last].Edges, edges(words[1]+" "+words[2])...)
		}
	}
	if !modelNames(g) || len(g.Nodes) > 128 {
		return api.Graph{}, api.ErrLine
	}
	return g, api.OK
}

// modelNames tells whether the names of a graph that was read are right, and its edges lead to nodes.
func modelNames(g api.Graph) bool {
	for i, n := range g.Nodes {
		var context, labels []string
		for _, p := range n.Context {
			context = append(context, p.Name)
		}
		for _, e := range n.Edges {
			labels = append(labels, e.Label)
			if e.To >= len(g.Nodes) {
				return false
			}
		}
		for _, l := range [][]string{context, labels} {
			sorted := slices.Clone(l)
			slices.Sort(sorted)
			if !slices.Equal(slices.Compact(sorted), l) || len(l) > 128 || slices.ContainsFunc(l, func(s string) bool { return !nameForm.MatchString(s) }) {
				return false
			}
		}
		if i > 0 && !nameForm.MatchString(n.Name) {
			return false
		}
	}
	return true
}

// source is numbers that look like chance, and are the same each time.
type source uint64

func (s *source) below(n int) int {
	*s = *s*6364136223846793005 + 1442695040888963407
	return int(uint64(*s) >> 33 % uint64(n))
}

func (s *source) pick(texts ...string) string { return texts[s.below(len(texts))] }

func (s *source) someVersion() api.Version {
	l := []int{0, 1, 2, 10, 99, 100, 999}
	return version(l[s.below(7)], l[s.below(7)], l[s.below(7)])
}

// someNames is at most so many names that rise.
func (s *source) someNames(most int) []string {
	var l []string
	for range s.below(most + 1) {
		l = append(l, s.pick("a", "b", "lock", "root", "node", "with", "to", "z")+s.pick("", "-", "0", "a", "z")+s.pick("", "-", "1", "b", "x"))
	}
	slices.Sort(l)
	return slices.Compact(l)
}

// someGraph is a graph that has the form.
func (s *source) someGraph() api.Graph {
	g := graph(api.Node{})
	for range s.below([]int{1, 4, 24}[s.below(3)]) {
		n := api.Node{Name: s.pick("a", "b", "node", "x-1", "abcdefghijklmnop"), Version: s.someVersion()}
		for _, name := range s.someNames(3) {
			n.Context = append(n.Context, api.Pin{Name: name, Version: s.someVersion()})
		}
		g.Nodes = append(g.Nodes, n)
	}
	last := len(g.Nodes) - 1
	for i := range g.Nodes {
		for _, name := range s.someNames(min(last, 4)) {
			g.Nodes[i].Edges = append(g.Nodes[i].Edges, api.Edge{Label: name, To: 1 + s.below(last)})
		}
	}
	return g
}

// short cuts a text that is too long to tell.
func short(s string) string {
	if len(s) > 160 {
		return strconv.Quote(s[:160]) + " and so on"
	}
	return strconv.Quote(s)
}

// mayBe tells a fault unless a graph has the form, and is written as it is to be.
func mayBe(t *testing.T, what string, g api.Graph) {
	t.Helper()
	if !lock.May(g) {
		t.Errorf("May of %s: false", what)
	}
	if s, e := lock.Print(g); s != text(g) || e != api.OK {
		t.Errorf("Print of %s: %s, error %d, not %s", what, short(s), e, short(text(g)))
	}
}

// mayNotBe tells a fault unless a graph has not the form, and is not written.
func mayNotBe(t *testing.T, what string, g api.Graph) {
	t.Helper()
	if lock.May(g) {
		t.Errorf("May of %s: true", what)
	}
	if s, e := lock.Print(g); s != "" || e != api.ErrGraph {
		t.Errorf("Print of %s: %s, error %d, not error %d", what, short(s), e, api.ErrGraph)
	}
}

// reads tells a fault unless a text is that of a graph.
func reads(t *testing.T, s string, want api.Graph) {
	t.Helper()
	if g, e := lock.Parse(s); e != api.OK || !same(g, want) {
		t.Errorf("Parse(%s): %s, error %d, not %s", short(s), short(text(g)), e, short(text(want)))
	}
}

// refuses tells a fault unless a text is refused, by just that error, and nothing is answered beside it.
func refuses(t *testing.T, s string, want api.Errno) {
	t.Helper()
	if g, e := lock.Parse(s); e != want || len(g.Nodes) != 0 {
		t.Errorf("Parse(%s): %s, error %d, not error %d", short(s), short(text(g)), e, want)
	}
}

// noNames is names that may not be.
func noNames() []string {
	return []string{"", "A", "aB", "1a", "-a", "a_b", "a.b", "a/b", "a b", " a", "a ", "a\n", "\x00", "\xff", "\u00e9", "a\u00e9", "abcdefghijklmnopq", strings.Repeat("a", 5000)}
}

// noVersions is versions that may not be.
func noVersions() []api.Version {
	var l []api.Version
	for _, n := range []int{-1, 1000, math.MinInt, math.MaxInt, 1 << 32} {
		l = append(l, version(n, 0, 0), version(0, n, 0), version(0, 0, n), version(999, n, 999))
	}
	return l
}
