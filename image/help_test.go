package image_test

import (
	"fmt"
	"slices"
	"strconv"
	"strings"
	"testing"

	"halyard/api"
	"halyard/graph"
	"halyard/image"
	"halyard/manifest"
	"halyard/pack"
	"halyard/span"
)

func version(major, minor, patch int) api.Version {
	return api.Version{Major: major, Minor: minor, Patch: patch}
}

func number(s string) int {
	n, err := strconv.Atoi(s)
	if err != nil {
		panic(s)
	}
	return n
}

// cut is the parts of a text, with `, ` between each two; the empty text has none.
func cut(text string) []string {
	if text == "" {
		return nil
	}
	return strings.Split(text, ", ")
}

// pins is the pins of a text, with `, ` between each two: a name and a major version.
func pins(text string) []api.Pin {
	var l []api.Pin
	for _, s := range cut(text) {
		name, major, _ := strings.Cut(s, " ")
		l = append(l, api.Pin{Name: name, Version: version(number(major), 0, 0)})
	}
	return l
}

// edges is the edges of a text, with `, ` between each two: a label and a node's number.
func edges(text string) []api.Edge {
	var l []api.Edge
	for _, s := range cut(text) {
		label, to, _ := strings.Cut(s, " ")
		l = append(l, api.Edge{Label: label, To: number(to)})
	}
	return l
}

// node is a node, such as `p 1 with b 1, c 2: b 2, c 3`; the root is `root: a 1`.
func node(text string) api.Node {
	head, led, _ := strings.Cut(text, ": ")
	at, context, _ := strings.Cut(head, " with ")
	n := api.Node{Context: pins(context), Edges: edges(led)}
	if at != "root" {
		n.Name, n.Version = pins(at)[0].Name, pins(at)[0].Version
	}
	return n
}

// drawn is the graph of those nodes.
func drawn(texts ...string) api.Graph {
	var g api.Graph
	for _, s := range texts {
		g.Nodes = append(g.Nodes, node(s))
	}
	return g
}

// packOf is a package for a node: it needs beside it what the context has, and needs the rest, as far as there is room.
func packOf(n api.Node) api.Package {
	p := api.Package{Name: n.Name, Version: n.Version}
	for _, e := range n.Edges {
		to := &p.Deps
		if slices.ContainsFunc(n.Context, func(q api.Pin) bool { return q.Name == e.Label }) {
			to = &p.Peers
		}
		if len(*to) < api.MaxList {
			*to = append(*to, api.Dep{Name: e.Label, Range: span.All()})
		}
	}
	return p
}

// wanting is the manifest of those lines behind the first one, such as `needs a *`.
func wanting(lines ...string) api.Manifest {
	m, e := manifest.Parse("project\n" + strings.Join(append(lines, ""), "\n"))
	if e != api.OK {
		panic(lines)
	}
	return m
}

// project is a state that wants what the root leads to, with that graph, and the root and those directories in their order: a path, such as `a/b`, and the number of its node.
func project(g api.Graph, dirs ...string) api.State {
	s := api.State{Graph: g, Tree: api.Tree{Dirs: []api.Dir{{}}}}
	for _, e := range g.Nodes[0].Edges {
		if len(s.Manifest.Deps) < api.MaxList {
			s.Manifest.Deps = append(s.Manifest.Deps, api.Dep{Name: e.Label, Range: span.All()})
		}
	}
	for _, d := range dirs {
		path, n, _ := strings.Cut(d, " ")
		s.Tree.Dirs = append(s.Tree.Dirs, api.Dir{Path: strings.Split(path, "/"), Pack: packOf(g.Nodes[number(n)]), Node: number(n)})
	}
	return s
}

// chapter is the chapter's project: it needs a 1.0.0.
func chapter() api.State {
	s := project(drawn("root: a 1", "a 1"), "a 1")
	s.Manifest = wanting("needs a 1.0.0")
	return s
}

// rich is a state with some of all: two directories of one node, such with modules and such without, two versions of a name, contexts, nodes that are not reached.
func rich() api.State {
	g := drawn("root: a 1, b 2, c 3, p 5", "a 1: b 4", "b 1", "c 1: b 4, d 6", "b 2", "p 1 with a 1, b 1: a 1, b 2", "d 1: b 4, d 6", "z 9: z 7")
	s := project(g, "a 1", "a/b 4", "b 2", "c 3", "c/b 4", "c/d 6", "p 5")
	s.Manifest = wanting("needs a ^1.0.0", "needs b <2.0.0", "dev c *", "likes p 1.0.0 || 3.0.0", "likes zz *", "pins a >=1.0.0", "pins b *")
	s.Tree.Dirs[2].Pack.Optional = []api.Dep{{Name: "b", Range: []api.Span{{Lo: version(1, 2, 3), Hi: version(4, 5, 6)}, {Lo: version(7, 0, 0), Hi: version(7, 0, 0)}}}}
	return s
}

// changed is a state that differs; it shares no memory with the other one.
func changed(s api.State, change func(s *api.State)) api.State {
	s = copied(s)
	change(&s)
	return s
}

// pruned is a state that is Pruned, and else the same.
func pruned(s api.State) api.State {
	s.Pruned = true
	return s
}

// file and folder are what stands at a path.
func file(path, data string) api.File { return api.File{Path: path, Data: data} }

func folder(path string) api.File { return api.File{Path: path, Dir: true} }

// paths is the paths of files.
func paths(l []api.File) []string {
	var out []string
	for _, f := range l {
		out = append(out, f.Path)
	}
	return out
}

// filesOf is the files of a state that may be.
func filesOf(t *testing.T, s api.State) []api.File {
	t.Helper()
	l, e := image.Files(s)
	if e != api.OK {
		t.Fatalf("Files(%s): error %d", flat(s), e)
	}
	return l
}

// same tells whether two states are the same, order and nodes too; nil and empty lists are one.
func same(a, b api.State) bool {
	return manifest.Same(a.Manifest, b.Manifest) && graph.Same(a.Graph, b.Graph) && a.Pruned == b.Pruned &&
		slices.EqualFunc(a.Tree.Dirs, b.Tree.Dirs, func(a, b api.Dir) bool {
			return slices.Equal(a.Path, b.Path) && a.Node == b.Node && pack.Same(a.Pack, b.Pack)
		})
}

// flat is a state, or files, be they such as may be or not, as a text to be told.
func flat(v any) string { return short(fmt.Sprintf("%+v", v)) }

// short cuts a text that is too long to tell.
func short(s string) string {
	if len(s) > 3000 {
		return s[:3000] + " and so on"
	}
	return s
}

// lies tells a fault unless the files of a state are just these, in this order, and what is read of them is the state.
func lies(t *testing.T, what string, s api.State, want ...api.File) {
	t.Helper()
	if got, e := image.Files(s); e != api.OK || !slices.Equal(got, want) {
		t.Errorf("%s: %s, error %d, not %s", what, flat(got), e, flat(want))
	}
	reads(t, what, want, s)
}

// mayNot tells a fault unless Files refuses a state, and tells nothing beside it.
func mayNot(t *testing.T, what string, s api.State) {
	t.Helper()
	if got, e := image.Files(s); e != api.ErrImage || got != nil {
		t.Errorf("Files with %s: %s, error %d", what, flat(got), e)
	}
	if _, ok := modelFiles(s); ok {
		t.Errorf("%s: the model takes it", what)
	}
}

// reads tells a fault unless what is read of files is just that state.
func reads(t *testing.T, what string, l []api.File, want api.State) {
	t.Helper()
	if got, e := image.Read(l); e != api.OK || !same(got, want) {
		t.Errorf("Read with %s of %s: %s, error %d, not %s", what, flat(paths(l)), flat(got), e, flat(want))
	}
}

// refuses tells a fault unless Read refuses files, and tells nothing beside it.
func refuses(t *testing.T, what string, l []api.File) {
	t.Helper()
	if got, e := image.Read(l); e != api.ErrImage || !same(got, api.State{}) {
		t.Errorf("Read with %s of %s: %s, error %d", what, flat(l), flat(got), e)
	}
	if _, ok := modelRead(l); ok {
		t.Errorf("%s: the model takes it", what)
	}
}

// filesAsModel tells a fault unless Files answers as the model does, and whether it took the state.
func filesAsModel(t *testing.T, s api.State) bool {
	t.Helper()
	want, ok := modelFiles(s)
	if !ok {
		mayNot(t, "something wrong", s)
		return false
	}
	if got, e := image.Files(s); e != api.OK || !slices.Equal(got, want) {
		t.Errorf("Files(%s): %s, error %d, not %s", flat(s), flat(got), e, flat(want))
	}
	return true
}

// readsAsModel tells a fault unless Read answers as the model does, and whether it took the files.
func readsAsModel(t *testing.T, l []api.File) bool {
	t.Helper()
	want, ok := modelRead(l)
	if !ok {
		refuses(t, "something wrong", l)
		return false
	}
	reads(t, "all right", l, want)
	return true
}
