package image_test

import (
	"fmt"
	"math"
	"slices"
	"strings"
	"testing"

	"halyard/api"
	"halyard/image"
	"halyard/lock"
	"halyard/manifest"
	"halyard/pack"
	"halyard/span"
	"halyard/tree"
	"halyard/walkup"
)

// drawnEmpty is the empty state, by the tests' own means.
func drawnEmpty() api.State {
	return api.State{Graph: api.Graph{Nodes: []api.Node{{}}}, Tree: api.Tree{Dirs: []api.Dir{{}}}}
}

// P15.1: the empty state, and that it has no files.
func TestEmpty(t *testing.T) {
	s := image.Empty()
	if !same(s, drawnEmpty()) {
		t.Errorf("Empty: %s", flat(s))
	}
	m := s.Manifest
	if len(m.Deps)+len(m.Dev)+len(m.Optional)+len(m.Overrides) != 0 || len(s.Graph.Nodes) != 1 || len(s.Tree.Dirs) != 1 || s.Pruned {
		t.Errorf("Empty: %s", flat(s))
	}
	lies(t, "the empty state", s)
	lies(t, "the empty state by other means", drawnEmpty())
}

const (
	emptyManifest = "project\n"
	emptyLock     = "lock\nroot\n"
)

// P15.1: states that differ from the empty one in one thing alone.
func TestNearlyEmpty(t *testing.T) {
	lies(t, "Pruned", pruned(image.Empty()), file("/lock", emptyLock), file("/manifest", emptyManifest), file("/pruned", ""))
	for word, list := range map[string]func(m *api.Manifest) *[]api.Dep{
		"needs": func(m *api.Manifest) *[]api.Dep { return &m.Deps },
		"dev":   func(m *api.Manifest) *[]api.Dep { return &m.Dev },
		"likes": func(m *api.Manifest) *[]api.Dep { return &m.Optional },
		"pins":  func(m *api.Manifest) *[]api.Dep { return &m.Overrides },
	} {
		s := image.Empty()
		*list(&s.Manifest) = []api.Dep{{Name: "a", Range: span.All()}}
		wanted := emptyManifest + word + " a *\n"
		lies(t, word, s, file("/lock", emptyLock), file("/manifest", wanted))
		lies(t, word+", Pruned", pruned(s), file("/lock", emptyLock), file("/manifest", wanted), file("/pruned", ""))
	}
	one := drawn("root", "a 1")
	s := image.Empty()
	s.Graph = one
	lies(t, "a node that is not reached", s, file("/lock", emptyLock+"node a 1.0.0\n"), file("/manifest", emptyManifest))
	s.Tree = project(one, "a 1").Tree
	mayNot(t, "a directory of a node that is not reached", s)
	s.Graph = drawn("root")
	mayNot(t, "a directory of no node", s)
	s = image.Empty()
	s.Graph = drawn("root: a 1", "a 1")
	mayNot(t, "a node without a directory", s)
	s.Tree = project(s.Graph, "a 1").Tree
	lies(t, "a directory that the manifest does not want", s, file("/lock", "lock\nroot\nto a 1\nnode a 1.0.0\n"), file("/manifest", emptyManifest), folder("/modules"), folder("/modules/a"), file("/modules/a/package", "package a 1.0.0\n"))
}

// P15.1, P15.2: the chapter's example.
func TestChapter(t *testing.T) {
	want := []api.File{
		file("/lock", "lock\nroot\nto a 1\nnode a 1.0.0\n"),
		file("/manifest", "project\nneeds a 1.0.0\n"),
		folder("/modules"),
		folder("/modules/a"),
		file("/modules/a/package", "package a 1.0.0\n"),
	}
	lies(t, "a 1.0.0", chapter(), want...)
	lies(t, "a 1.0.0, Pruned", pruned(chapter()), append(want, file("/pruned", ""))...)
	refuses(t, "no /lock", want[1:])
	refuses(t, "a file more", append(slices.Clone(want), file("/x", "")))
	other := slices.Clone(want)
	other[4].Data = "package b 1.0.0\n"
	refuses(t, "another package's bytes", other)
}

// P15.1: of each kind of file what it has, in directories that have something in their modules, and such that have not.
func TestRich(t *testing.T) {
	const whole = ">=1.0.0 <=1.999.999"
	lies(t, "a state with some of all", rich(),
		file("/lock", strings.Join([]string{"lock", "root", "to a 1", "to b 2", "to c 3", "to p 5", "node a 1.0.0", "to b 4", "node b 1.0.0", "node c 1.0.0", "to b 4", "to d 6", "node b 2.0.0",
			"node p 1.0.0", "with a 1.0.0", "with b 1.0.0", "to a 1", "to b 2", "node d 1.0.0", "to b 4", "to d 6", "node z 9.0.0", "to z 7", ""}, "\n")),
		file("/manifest", strings.Join([]string{"project", "needs a " + whole, "needs b <=1.999.999", "dev c *", "likes p 1.0.0 || 3.0.0", "likes zz *", "pins a >=1.0.0", "pins b *", ""}, "\n")),
		folder("/modules"),
		folder("/modules/a"),
		folder("/modules/a/modules"),
		folder("/modules/a/modules/b"),
		file("/modules/a/modules/b/package", "package b 2.0.0\nlikes b >=1.2.3 <=4.5.6 || 7.0.0\n"),
		file("/modules/a/package", "package a 1.0.0\nneeds b *\n"),
		folder("/modules/b"),
		file("/modules/b/package", "package b 1.0.0\n"),
		folder("/modules/c"),
		folder("/modules/c/modules"),
		folder("/modules/c/modules/b"),
		file("/modules/c/modules/b/package", "package b 2.0.0\n"),
		folder("/modules/c/modules/d"),
		file("/modules/c/modules/d/package", "package d 1.0.0\nneeds b *\nneeds d *\n"),
		file("/modules/c/package", "package c 1.0.0\nneeds b *\nneeds d *\n"),
		folder("/modules/p"),
		file("/modules/p/package", "package p 1.0.0\nbeside a *\nbeside b *\n"))
}

// P15.1: files stand by their paths, byte by byte: `-` stands ahead of `/`, digits and letters behind it.
func TestOrder(t *testing.T) {
	g := drawn("root: a 1, a- 2, a-b 3, a0 4, aa 5", "a 1: b 6", "a- 1: b 6", "a-b 1", "a0 1: b 6", "aa 1", "b 1")
	s := project(g, "a 1", "a- 2", "a-/b 6", "a-b 3", "a/b 6", "a0 4", "a0/b 6", "aa 5")
	want := []string{"/lock", "/manifest", "/modules",
		"/modules/a",
		"/modules/a-", "/modules/a-/modules", "/modules/a-/modules/b", "/modules/a-/modules/b/package", "/modules/a-/package",
		"/modules/a-b", "/modules/a-b/package",
		"/modules/a/modules", "/modules/a/modules/b", "/modules/a/modules/b/package", "/modules/a/package",
		"/modules/a0", "/modules/a0/modules", "/modules/a0/modules/b", "/modules/a0/modules/b/package", "/modules/a0/package",
		"/modules/aa", "/modules/aa/package",
		"/pruned"}
	got := filesOf(t, pruned(s))
	if !slices.Equal(paths(got), want) {
		t.Errorf("%q, not %q", paths(got), want)
	}
	reads(t, "names that begin alike", got, pruned(s))
	// The same directories in the order in which names stand, by which what is in a stands ahead of a-.
	mayNot(t, "directories by their names", project(g, "a 1", "a/b 6", "a- 2", "a-/b 6", "a-b 3", "a0 4", "a0/b 6", "aa 5"))
}

// P15.1: packages that have names of other things in a project.
func TestNamesOfOtherThings(t *testing.T) {
	g := drawn("root: lock 1, modules 2, package 3", "lock 1: package 4", "modules 1: modules 5", "package 1: package 4", "package 2", "modules 2")
	s := project(g, "lock 1", "lock/package 4", "modules 2", "modules/modules 5", "package 3", "package/package 4")
	want := []string{"/lock", "/manifest", "/modules",
		"/modules/lock", "/modules/lock/modules", "/modules/lock/modules/package", "/modules/lock/modules/package/package", "/modules/lock/package",
		"/modules/modules", "/modules/modules/modules", "/modules/modules/modules/modules", "/modules/modules/modules/modules/package", "/modules/modules/package",
		"/modules/package", "/modules/package/modules", "/modules/package/modules/package", "/modules/package/modules/package/package", "/modules/package/package"}
	got := filesOf(t, s)
	if !slices.Equal(paths(got), want) {
		t.Errorf("%q, not %q", paths(got), want)
	}
	for _, f := range got {
		if f.Dir != isFolder(f.Path) || f.Dir != (f.Data == "") {
			t.Errorf("%+v", f)
		}
	}
	reads(t, "names of other things", got, s)
}

// isFolder tells whether a project has a directory at a path, by the parts of it: modules and names by turns, or at last the file of a package.
func isFolder(path string) bool {
	parts := strings.Split(path[1:], "/")
	return parts[0] == "modules" && (len(parts)%2 == 0 || parts[len(parts)-1] == "modules")
}

// noManifests is manifests that may not be.
func noManifests() map[string]api.Manifest {
	a, b := api.Dep{Name: "a", Range: span.All()}, api.Dep{Name: "b", Range: span.All()}
	l := map[string]api.Manifest{
		"a name in Deps and Dev":      {Deps: []api.Dep{a}, Dev: []api.Dep{a}},
		"a name in Deps and Optional": {Deps: []api.Dep{a}, Optional: []api.Dep{a}},
		"a name in Dev and Optional":  {Dev: []api.Dep{a}, Optional: []api.Dep{a}},
	}
	for how, list := range map[string][]api.Dep{"that falls": {b, a}, "with a name twice": {a, a}, "with a range of none": {{Name: "a"}}, "with no name": {{Range: span.All()}}, "with a name that may not be": {{Name: "A", Range: span.All()}}, "with a range that is none": {{Name: "a", Range: slices.Repeat(span.All(), 2)}}, "of 17": many(17)} {
		l["Deps "+how], l["Dev "+how] = api.Manifest{Deps: list}, api.Manifest{Dev: list}
		l["Optional "+how], l["Overrides "+how] = api.Manifest{Optional: list}, api.Manifest{Overrides: list}
	}
	return l
}

// many is so many Deps that rise.
func many(count int) []api.Dep {
	var l []api.Dep
	for i := range count {
		l = append(l, api.Dep{Name: fmt.Sprintf("n%03d", i), Range: span.All()})
	}
	return l
}

// P15.1: a manifest that may not be, of each state.
func TestNoManifest(t *testing.T) {
	for what, m := range noManifests() {
		if manifest.May(m) {
			t.Errorf("%s may be", what)
		}
		for _, s := range []api.State{image.Empty(), pruned(image.Empty()), chapter(), rich()} {
			s.Manifest = m
			mayNot(t, what, s)
		}
	}
	// Too long a text, of lists that may be each.
	s := chapter()
	s.Manifest = long(t)
	mayNot(t, "too long a manifest", s)
	s.Manifest.Overrides = nil
	if _, e := image.Files(s); e != api.OK {
		t.Errorf("a shorter one: %d", e)
	}
}

// long is a manifest whose text is too long.
func long(t *testing.T) api.Manifest {
	t.Helper()
	var spans []api.Span
	for i := range 20 {
		spans = append(spans, api.Span{Lo: version(100+2*i, 100, 100), Hi: version(100+2*i, 999, 100)})
	}
	var m api.Manifest
	for i := range 3 {
		d := api.Dep{Name: fmt.Sprintf("a%d", i), Range: spans}
		m.Deps, m.Overrides = append(m.Deps, d), append(m.Overrides, d, api.Dep{Name: d.Name + "x", Range: spans}, api.Dep{Name: d.Name + "y", Range: spans})
	}
	if manifest.May(m) || !manifest.May(api.Manifest{Deps: m.Deps}) || !manifest.May(api.Manifest{Overrides: m.Overrides[:1]}) {
		t.Fatal("not too long")
	}
	return m
}

// P15.1: a graph that has no lock's text, beside a tree that it maps.
func TestNoGraph(t *testing.T) {
	of := func(change func(s *api.State)) api.State { return changed(rich(), change) }
	far := func(to int) api.State { return of(func(s *api.State) { s.Graph.Nodes[7].Edges[0].To = to }) }
	l := map[string]api.State{
		"no nodes":                             of(func(s *api.State) { s.Graph.Nodes = nil }),
		"too many nodes":                       of(func(s *api.State) { s.Graph.Nodes = append(s.Graph.Nodes, slices.Repeat(drawn("z 1").Nodes, 121)...) }),
		"a root with a name":                   of(func(s *api.State) { s.Graph.Nodes[0].Name = "a" }),
		"a root with a version":                of(func(s *api.State) { s.Graph.Nodes[0].Version.Patch = 1 }),
		"a root with a context":                of(func(s *api.State) { s.Graph.Nodes[0].Context = pins("a 1") }),
		"a node without a name":                of(func(s *api.State) { s.Graph.Nodes[7].Name = "" }),
		"a name that may not be":               of(func(s *api.State) { s.Graph.Nodes[7].Name = "A" }),
		"a version that may not be":            of(func(s *api.State) { s.Graph.Nodes[7].Version.Major = 1000 }),
		"a context that falls":                 of(func(s *api.State) { s.Graph.Nodes[5].Context = pins("b 1, a 1") }),
		"a context with a name twice":          of(func(s *api.State) { s.Graph.Nodes[5].Context = pins("a 1, a 1") }),
		"a context's name that may not be":     of(func(s *api.State) { s.Graph.Nodes[5].Context = pins("A 1") }),
		"a context's version that may not be":  of(func(s *api.State) { s.Graph.Nodes[5].Context = pins("a -1") }),
		"edges that fall":                      of(func(s *api.State) { s.Graph.Nodes[0].Edges = edges("b 2, a 1, c 3, p 5") }),
		"an edge twice":                        of(func(s *api.State) { s.Graph.Nodes[0].Edges = edges("a 1, a 1, b 2, c 3, p 5") }),
		"an edge with a label that may not be": of(func(s *api.State) { s.Graph.Nodes[7].Edges = edges("A 7") }),
		"an edge to 0":                         far(0),
		"an edge to -1":                        far(-1),
		"an edge to the least number":          far(math.MinInt),
		"an edge one past the end":             far(8),
		"an edge far past the end":             far(math.MaxInt),
	}
	for what, s := range l {
		if lock.May(s.Graph) {
			t.Errorf("%s: it has the form", what)
		}
		mayNot(t, what, s)
		mayNot(t, what+", Pruned", pruned(s))
		s.Tree = image.Empty().Tree
		mayNot(t, what+", with the root alone", s)
	}
	s := of(func(s *api.State) { s.Graph.Nodes = append(s.Graph.Nodes, slices.Repeat(drawn("z 1").Nodes, 120)...) })
	if _, e := image.Files(s); e != api.OK || len(s.Graph.Nodes) != 128 {
		t.Errorf("as many nodes as may be: %d, error %d", len(s.Graph.Nodes), e)
	}
}

// P15.1: a tree that may not be.
func TestNoTree(t *testing.T) {
	of := func(change func(s *api.State)) api.State { return changed(rich(), change) }
	l := map[string]api.State{
		"no directories":                 of(func(s *api.State) { s.Tree.Dirs = nil }),
		"no root":                        of(func(s *api.State) { s.Tree.Dirs = s.Tree.Dirs[1:] }),
		"a root with a path":             of(func(s *api.State) { s.Tree.Dirs[0].Path = []string{"a"} }),
		"a root with a node":             of(func(s *api.State) { s.Tree.Dirs[0].Node = 1 }),
		"a root with a node below 0":     of(func(s *api.State) { s.Tree.Dirs[0].Node = -1 }),
		"a root with a package's name":   of(func(s *api.State) { s.Tree.Dirs[0].Pack.Name = "a" }),
		"a root with what it needs":      of(func(s *api.State) { s.Tree.Dirs[0].Pack.Deps = many(1) }),
		"two roots":                      of(func(s *api.State) { s.Tree.Dirs = slices.Insert(s.Tree.Dirs, 1, api.Dir{}) }),
		"a directory twice":              of(func(s *api.State) { s.Tree.Dirs = slices.Insert(s.Tree.Dirs, 7, s.Tree.Dirs[7]) }),
		"a directory in none":            of(func(s *api.State) { s.Tree.Dirs = slices.Delete(s.Tree.Dirs, 1, 2) }),
		"a name that may not be":         of(func(s *api.State) { s.Tree.Dirs[7].Path, s.Tree.Dirs[7].Pack.Name = []string{"P"}, "P" }),
		"a package of another name":      of(func(s *api.State) { s.Tree.Dirs[7].Pack.Name = "q" }),
		"a package that may not be":      of(func(s *api.State) { s.Tree.Dirs[7].Pack.Deps = many(17) }),
		"a package with a range of none": of(func(s *api.State) { s.Tree.Dirs[7].Pack.Deps = []api.Dep{{Name: "n"}} }),
	}
	for what, s := range l {
		if tree.Check(s.Tree) == api.OK {
			t.Errorf("%s: it may be", what)
		}
		mayNot(t, what, s)
		mayNot(t, what+", Pruned", pruned(s))
	}
}

// P15.1: directories that do not rise by the texts of their paths.
func TestDirectoriesInOrder(t *testing.T) {
	for _, dirs := range []string{"b 2, a 1, a/b 4, c 3, c/b 4, c/d 6, p 5", "a 1, b 2, a/b 4, c 3, c/b 4, c/d 6, p 5", "a 1, a/b 4, b 2, c 3, c/d 6, c/b 4, p 5", "a 1, a/b 4, b 2, c 3, p 5, c/b 4, c/d 6", "p 5, c 3, c/b 4, c/d 6, b 2, a 1, a/b 4"} {
		s := rich()
		s.Tree = project(s.Graph, cut(dirs)...).Tree
		if nodes, e := walkup.Map(s.Tree, s.Graph); e != api.OK || slices.ContainsFunc(nodes, func(n int) bool { return n < 0 }) {
			t.Fatal(dirs, nodes, e)
		}
		mayNot(t, dirs, s)
	}
}

// P15.1: a directory whose Node is not the one that walkup.Map tells, or that gets none, or not that package.
func TestNodesOfDirectories(t *testing.T) {
	for i := range rich().Tree.Dirs {
		for n := -2; n < 10; n++ {
			s := changed(rich(), func(s *api.State) { s.Tree.Dirs[i].Node = n })
			if n != rich().Tree.Dirs[i].Node {
				mayNot(t, fmt.Sprintf("node %d of directory %d", n, i), s)
			}
		}
		for _, n := range []int{math.MinInt, math.MaxInt, math.MinInt32, math.MaxInt32} {
			mayNot(t, fmt.Sprintf("node %d of directory %d", n, i), changed(rich(), func(s *api.State) { s.Tree.Dirs[i].Node = n }))
		}
	}
	// Two nodes of one name and version: which one it is lookups tell alone.
	g := drawn("root: a 1, b 2", "a 1: c 3", "b 1: c 4", "c 1", "c 1", "c 1")
	lies(t, "nodes of one package", project(g, "a 1", "a/c 3", "b 2", "b/c 4"), filesOf(t, project(g, "a 1", "a/c 3", "b 2", "b/c 4"))...)
	for _, dirs := range []string{"a 1, a/c 4, b 2, b/c 3", "a 1, a/c 3, b 2, b/c 3", "a 1, a/c 4, b 2, b/c 4", "a 1, a/c 3, b 2, b/c 5", "a 1, a/c 5, b 2, b/c 4"} {
		mayNot(t, dirs, project(g, cut(dirs)...))
	}
	// One directory, to which edges lead as to two nodes.
	mayNot(t, "one for two", project(g, "a 1", "b 2", "c 3"))
	// A directory that no lookup finds, though a node has its package.
	for _, dirs := range []string{"a 1, a/a 1, a/c 3, b 2, b/c 4", "a 1, a/c 3, b 2, b/c 4, c 3", "a 1, a/c 3, b 2, b/c 4, c 5", "a 1, a/c 3, a/c/c 3, b 2, b/c 4"} {
		s := project(g, cut(dirs)...)
		if nodes, e := walkup.Map(s.Tree, s.Graph); e != api.OK || !slices.Contains(nodes, -1) {
			t.Fatal(dirs, nodes, e)
		}
		mayNot(t, dirs, s)
	}
	// An edge that finds nothing, or another package.
	mayNot(t, "no directory for an edge", project(g, "a 1", "a/c 3", "b 2"))
	mayNot(t, "another version", changed(chapter(), func(s *api.State) { s.Tree.Dirs[1].Pack.Version.Minor = 1 }))
	mayNot(t, "another version of the node", changed(chapter(), func(s *api.State) { s.Graph.Nodes[1].Version.Minor = 1 }))
	mayNot(t, "another name of the node", changed(chapter(), func(s *api.State) { s.Graph.Nodes[1].Name = "b" }))
}

// P15.1: what is not asked of a state: that its graph is a solution, that its tree is place's, that directories of one node have the same package.
func TestWhatIsNotAsked(t *testing.T) {
	g := drawn("root: a 1", "a 1: b 2", "b 1 with q 9: a 1", "q 3: q 3")
	s := project(g, "a 1", "a/b 2")
	s.Manifest = wanting("needs zz 1.0.0")
	s.Tree.Dirs[1].Pack.Deps = many(3)
	if l := filesOf(t, s); len(l) != 8 {
		t.Error(paths(l))
	}
	reads(t, "what is no solution", filesOf(t, s), s)
	s = rich()
	if pack.Same(s.Tree.Dirs[2].Pack, s.Tree.Dirs[5].Pack) || s.Tree.Dirs[2].Node != s.Tree.Dirs[5].Node {
		t.Fatal("one package")
	}
	reads(t, "two packages of one node", filesOf(t, s), s)
}

// crowded is a state of 250 directories, and so many more.
func crowded(more int) api.State {
	g := drawn("root")
	var dirs []string
	for i := range 125 {
		name := fmt.Sprintf("d%03d", i)
		g.Nodes = append(g.Nodes, api.Node{Name: name, Edges: edges("x 126")})
		g.Nodes[0].Edges = append(g.Nodes[0].Edges, api.Edge{Label: name, To: i + 1})
		dirs = append(dirs, fmt.Sprintf("%s %d", name, i+1), name+"/x 126")
		if i < more-1 {
			dirs = append(dirs, name+"/y 127")
		}
	}
	if more > 0 {
		g.Nodes = append(g.Nodes, node("x 1: y 127"), node("y 1"))
		dirs = append(dirs, "y 127")
	} else {
		g.Nodes = append(g.Nodes, node("x 1"))
	}
	return project(g, dirs...)
}

// chain is a state of directories with those names, each in the one ahead of it.
func chain(names ...string) api.State {
	g := drawn("root")
	var dirs []string
	for i, name := range names {
		g.Nodes[i].Edges = []api.Edge{{Label: name, To: i + 1}}
		g.Nodes = append(g.Nodes, api.Node{Name: name, Version: version(i, 0, 0)})
		dirs = append(dirs, fmt.Sprintf("%s %d", strings.Join(names[:i+1], "/"), i+1))
	}
	return project(g, dirs...)
}

// P15.1, P15.2: as many directories, and as long a path, as may be, and one more.
func TestLimitsOfTrees(t *testing.T) {
	s := crowded(6)
	if len(s.Tree.Dirs) != 257 || len(s.Graph.Nodes) != 128 {
		t.Fatal(len(s.Tree.Dirs), len(s.Graph.Nodes))
	}
	l := filesOf(t, s)
	if len(l) != 3+256*2+125 {
		t.Error(len(l))
	}
	reads(t, "256 directories", l, s)
	mayNot(t, "257 directories", crowded(7))
	more := l[slices.Index(paths(l), "/modules/y/package")]
	more.Path = "/modules/d005/modules/y/package"
	refuses(t, "257 directories", append(slices.Clone(l), folder("/modules/d005/modules/y"), more))

	const seven, eight = "nxxxxxx", "nxxxxxxx"
	names := slices.Repeat([]string{seven}, 64)
	s = chain(names...)
	l = filesOf(t, s)
	if last := l[len(l)-1]; len(s.Tree.Dirs) != 65 || !slices.Contains(paths(l), strings.Repeat("/modules/"+seven, 64)+"/package") {
		t.Error(len(s.Tree.Dirs), last)
	}
	reads(t, "a path of 1024 bytes", l, s)
	names[63] = eight
	s = chain(names...)
	mayNot(t, "a path of 1025 bytes", s)
	// The files that it would have.
	l = l[:0:0]
	locked, _ := lock.Print(s.Graph)
	wanted, _ := manifest.Print(s.Manifest)
	l = append(l, file("/lock", locked), file("/manifest", wanted))
	for _, d := range s.Tree.Dirs[1:] {
		own, _ := pack.Print(d.Pack)
		l = append(l, folder(textOf(d.Path[:len(d.Path)-1])+"/modules"), folder(textOf(d.Path)), file(textOf(d.Path)+"/package", own))
	}
	refuses(t, "a path of 1025 bytes", l)
}
