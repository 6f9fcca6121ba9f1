package place_test

import (
	"fmt"
	"slices"
	"strconv"
	"strings"
	"testing"

	"halyard/api"
	"halyard/pack"
	"halyard/place"
	"halyard/span"
	"halyard/tree"
)

func version(major, minor, patch int) api.Version {
	return api.Version{Major: major, Minor: minor, Patch: patch}
}

func number(s string) int {
	n, err := strconv.Atoi(s)
	if err != nil {
		panic(s)
	}
	return n
}

// cut is the parts of a text, with `, ` between each two; the empty text has none.
func cut(text string) []string {
	if text == "" {
		return nil
	}
	return strings.Split(text, ", ")
}

// pins is the pins of a text, with `, ` between each two: a name and a major version.
func pins(text string) []api.Pin {
	var l []api.Pin
	for _, s := range cut(text) {
		name, major, _ := strings.Cut(s, " ")
		l = append(l, api.Pin{Name: name, Version: version(number(major), 0, 0)})
	}
	return l
}

// edges is the edges of a text, with `, ` between each two: a label and a node's number.
func edges(text string) []api.Edge {
	var l []api.Edge
	for _, s := range cut(text) {
		label, to, _ := strings.Cut(s, " ")
		l = append(l, api.Edge{Label: label, To: number(to)})
	}
	return l
}

// node is a node, such as `p 1 with b 1, c 2: b 2, c 3`; the root is `root: a 1`.
func node(text string) api.Node {
	head, led, _ := strings.Cut(text, ": ")
	at, context, _ := strings.Cut(head, " with ")
	n := api.Node{Context: pins(context), Edges: edges(led)}
	if at != "root" {
		n.Name, n.Version = pins(at)[0].Name, pins(at)[0].Version
	}
	return n
}

// drawn is the graph of those nodes.
func drawn(texts ...string) api.Graph {
	var g api.Graph
	for _, s := range texts {
		g.Nodes = append(g.Nodes, node(s))
	}
	return g
}

func listsOf(p *api.Package) []*[]api.Dep { return []*[]api.Dep{&p.Deps, &p.Peers, &p.Optional} }

// packOf is a package for a node: it needs beside it what the context has, and needs the rest, as far as there is room.
func packOf(n api.Node) api.Package {
	p := api.Package{Name: n.Name, Version: n.Version}
	for _, e := range n.Edges {
		to := &p.Deps
		if slices.ContainsFunc(n.Context, func(q api.Pin) bool { return q.Name == e.Label }) {
			to = &p.Peers
		}
		if len(*to) < api.MaxList {
			*to = append(*to, api.Dep{Name: e.Label, Range: span.All()})
		}
	}
	return p
}

// packsOf is of each node of a graph a package; of the root none.
func packsOf(g api.Graph) []api.Package {
	var l []api.Package
	for i, n := range g.Nodes {
		if i == 0 {
			l = append(l, api.Package{})
		} else {
			l = append(l, packOf(n))
		}
	}
	return l
}

// task is what is placed.
type task struct {
	g     api.Graph
	packs []api.Package
	l     api.Limits
	old   *api.Tree
}

// of is the task of the graph of those nodes, each with a package of its own, with as much room as may be.
func of(nodes ...string) task { return around(drawn(nodes...)) }

// around is the task of a graph, likewise.
func around(g api.Graph) task {
	return task{g: g, packs: packsOf(g), l: api.Limits{Dirs: api.MaxDirs, Path: api.MaxPath}}
}

// within is the same task within other limits.
func (x task) within(dirs, path int) task {
	x.l.Dirs, x.l.Path = dirs, path
	return x
}

// liking is the same task with an old tree of those texts.
func (x task) liking(texts ...string) task {
	old := x.grown(texts...)
	x.old = &old
	return x
}

// behind is the same task with that old tree.
func (x task) behind(old api.Tree) task {
	x.old = &old
	return x
}

// grown is a tree of the root and the directories of those texts, in their order: a path, such as `a/b`, and the number of the node of which it has the package.
func (x task) grown(texts ...string) api.Tree {
	t := api.Tree{Dirs: []api.Dir{{}}}
	for _, s := range texts {
		path, n, _ := strings.Cut(s, " ")
		t.Dirs = append(t.Dirs, api.Dir{Path: strings.Split(path, "/"), Pack: x.packs[number(n)], Node: number(n)})
	}
	return t
}

func (x task) run() (api.Tree, api.Errno) { return place.Run(x.g, x.packs, x.l, x.old) }

// flat is a tree as a text, with all that it has.
func flat(t api.Tree) string {
	var l []string
	for _, d := range t.Dirs {
		s := strings.Join(d.Path, "/") + " " + strconv.Itoa(d.Node)
		if p, e := pack.Print(d.Pack); e == api.OK {
			s += fmt.Sprintf(" (%s)", strings.ReplaceAll(strings.TrimSuffix(p, "\n"), "\n", ", "))
		} else if !pack.Same(d.Pack, api.Package{}) {
			s += fmt.Sprintf(" (%v)", d.Pack)
		}
		l = append(l, s)
	}
	return strings.Join(l, "; ")
}

// flatGraph is a graph, be it such as may be or not, as a text.
func flatGraph(g api.Graph) string {
	var l []string
	for i, n := range g.Nodes {
		s := fmt.Sprintf("%d: %q %v", i, n.Name, n.Version)
		for _, p := range n.Context {
			s += fmt.Sprintf(" with %q %v", p.Name, p.Version)
		}
		for _, e := range n.Edges {
			s += fmt.Sprintf(" to %q %d", e.Label, e.To)
		}
		l = append(l, s)
	}
	return strings.Join(l, "; ")
}

// short cuts a text that is too long to tell.
func short(s string) string {
	if len(s) > 1500 {
		return s[:1500] + " and so on"
	}
	return s
}

func (x task) String() string {
	s := flatGraph(x.g) + fmt.Sprintf(" in %v", x.l)
	if x.old != nil {
		s += " behind " + flat(*x.old)
	}
	return short(s)
}

// stands tells a fault unless what is placed is just the tree of those texts, in their order, and as the model tells it.
func (x task) stands(t *testing.T, what string, texts ...string) {
	t.Helper()
	got, e := x.run()
	if want := x.grown(texts...); e != api.OK || flat(got) != flat(want) {
		t.Errorf("%s: %s, error %d, not %s", what, short(flat(got)), e, short(flat(want)))
		return
	}
	x.asModel(t, what)
}

// fails tells a fault unless it is refused by that error, with nothing beside it, as the model tells it.
func (x task) fails(t *testing.T, what string, want api.Errno) {
	t.Helper()
	if got, e := x.run(); e != want || len(got.Dirs) != 0 {
		t.Errorf("%s: %s, error %d, not %d", what, short(flat(got)), e, want)
		return
	}
	x.asModel(t, what)
}

// asModel tells a fault unless the answer is the model's, and what its error is.
func (x task) asModel(t *testing.T, what string) api.Errno {
	t.Helper()
	want, e := x.model(nil)
	got, f := x.run()
	if f != e || flat(got) != flat(want) {
		t.Fatalf("%s: %s: %s, error %d, not %s, error %d", what, x, short(flat(got)), f, short(flat(want)), e)
	}
	return e
}

// cloneGraph is a graph in memory of its own.
func cloneGraph(g api.Graph) api.Graph {
	g.Nodes = slices.Clone(g.Nodes)
	for i := range g.Nodes {
		g.Nodes[i].Context, g.Nodes[i].Edges = slices.Clone(g.Nodes[i].Context), slices.Clone(g.Nodes[i].Edges)
	}
	return g
}

// clone is a task in memory of its own, but for what packages want, and for the old tree.
func (x task) clone() task {
	x.g, x.packs = cloneGraph(x.g), slices.Clone(x.packs)
	return x
}

// changed is a task that differs.
func (x task) changed(change func(x *task)) task {
	x = x.clone()
	change(&x)
	return x
}

// at is the place of the directory of a path such as `a/b` in a tree; the empty text is the root's.
func at(t api.Tree, path string) int { return tree.Find(t, strings.FieldsFunc(path, isSlash)) }

func isSlash(c rune) bool { return c == '/' }
