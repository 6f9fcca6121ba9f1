package image_test

import (
	"fmt"
	"slices"
	"strings"
	"testing"

	"halyard/api"
	"halyard/image"
)

// R1, R2, R6: every call ends and none panics, at all arguments, and answers as the model does.
func TestEveryCallEnds(t *testing.T) {
	s := source(10)
	taken, read := 0, 0
	for i := 0; i < 20000 && !t.Failed(); i++ {
		if filesAsModel(t, s.anyState()) {
			taken++
		}
		if readsAsModel(t, s.anyFiles()) {
			read++
		}
	}
	if taken < 20 || read < 20 {
		t.Error("too few of a kind:", taken, read)
	}
	mayNot(t, "nothing at all", api.State{})
	mayNot(t, "nothing at all, Pruned", pruned(api.State{}))
	refuses(t, "a file of nothing", []api.File{{}})
	refuses(t, "a directory of nothing", []api.File{{Dir: true}})
	refuses(t, "the root", []api.File{folder("/")})
	refuses(t, "the root beside a project", append(filesOf(t, chapter()), folder("/")))
	refuses(t, "the root with a package", append(filesOf(t, chapter()), folder("/"), file("//package", "package a 1.0.0\n")))
}

// R1: great things are told soon enough.
func TestGreatThings(t *testing.T) {
	const great = 1 << 18
	long := strings.Repeat("a", 1<<24)
	of := func(change func(s *api.State)) api.State { return changed(chapter(), change) }
	for what, s := range map[string]api.State{
		"a great manifest": of(func(s *api.State) { s.Manifest.Deps = many(great) }),
		"a great range":    of(func(s *api.State) { s.Manifest.Deps[0].Range = slices.Repeat(s.Manifest.Deps[0].Range, great) }),
		"a great name":     of(func(s *api.State) { s.Manifest.Deps[0].Name = long }),
		"many nodes":       of(func(s *api.State) { s.Graph.Nodes = slices.Repeat(s.Graph.Nodes, great) }),
		"many edges":       of(func(s *api.State) { s.Graph.Nodes[0].Edges = slices.Repeat(s.Graph.Nodes[0].Edges, great) }),
		"a great context":  of(func(s *api.State) { s.Graph.Nodes[1].Context = slices.Repeat(pins("b 1"), great) }),
		"many directories": of(func(s *api.State) { s.Tree.Dirs = slices.Repeat(s.Tree.Dirs, great) }),
		"a great path":     of(func(s *api.State) { s.Tree.Dirs[1].Path = slices.Repeat([]string{"a"}, great) }),
		"a great name of a node": of(func(s *api.State) {
			s.Graph.Nodes[1].Name, s.Tree.Dirs[1].Path, s.Tree.Dirs[1].Pack.Name = long, []string{long}, long
		}),
		"a great package":         of(func(s *api.State) { s.Tree.Dirs[1].Pack.Deps = many(great) }),
		"a great package of root": of(func(s *api.State) { s.Tree.Dirs[0].Pack.Deps = many(great) }),
	} {
		if got, e := image.Files(s); e != api.ErrImage || got != nil {
			t.Errorf("%s: %d files, error %d", what, len(got), e)
		}
	}
	l := filesOf(t, chapter())
	var wide []api.File
	for i := range great {
		text := fmt.Sprintf("/modules/n%d", i)
		wide = append(wide, folder(text), file(text+"/package", fmt.Sprintf("package n%d 1.0.0\n", i)))
	}
	deep := strings.Repeat("/modules/a", great)
	for what, more := range map[string][]api.File{
		"many files":            slices.Repeat(l, great),
		"many directories":      wide,
		"a great path":          {folder(deep), file(deep+"/package", "package a 1.0.0\n")},
		"a great name":          {folder("/modules/" + long), file("/modules/"+long+"/package", "package "+long+" 1.0.0\n")},
		"a file of many bytes":  {file("/x", long)},
		"a pruned of many":      {file("/pruned", long)},
		"a directory with many": {{Path: "/modules/a/modules", Dir: true, Data: long}},
	} {
		if got, e := image.Read(slices.Concat(l, more)); e != api.ErrImage || !same(got, api.State{}) {
			t.Errorf("%s: %s, error %d", what, flat(got), e)
		}
	}
	for i := range l {
		if got, e := image.Read(with(l, i, func(f *api.File) { f.Data = long })); e != api.ErrImage || !same(got, api.State{}) {
			t.Errorf("many bytes in %s: %s, error %d", l[i].Path, flat(got), e)
		}
	}
}

// full is a state as great as may be: as many nodes, edges and directories, in as long a row.
func full() api.State {
	s := chain(slices.Repeat([]string{"a"}, 102)...)
	// Each of the row leads to all of these, which stand at the root.
	for i := range 25 {
		n := api.Node{Name: fmt.Sprintf("b%02d", i), Version: version(1, 0, 0)}
		s.Graph.Nodes = append(s.Graph.Nodes, n)
		for j := range 103 {
			s.Graph.Nodes[j].Edges = append(s.Graph.Nodes[j].Edges, api.Edge{Label: n.Name, To: 103 + i})
		}
		s.Tree.Dirs = append(s.Tree.Dirs, api.Dir{Path: []string{n.Name}, Pack: packOf(n), Node: 103 + i})
	}
	for i := 1; len(s.Tree.Dirs) <= api.MaxDirs; i++ {
		path := append(slices.Clone(s.Tree.Dirs[i%90].Path), "b00")
		if i%90 == 0 || slices.ContainsFunc(s.Tree.Dirs, func(d api.Dir) bool { return slices.Equal(d.Path, path) }) {
			path[len(path)-1] = "b01"
		}
		if i%90 > 0 {
			n := number(path[len(path)-1][1:]) + 103
			s.Tree.Dirs = append(s.Tree.Dirs, api.Dir{Path: path, Pack: packOf(s.Graph.Nodes[n]), Node: n})
		}
	}
	slices.SortFunc(s.Tree.Dirs, func(a, b api.Dir) int { return strings.Compare(textOf(a.Path), textOf(b.Path)) })
	return s
}

// R1: a state as great as may be is told and read soon enough.
func TestFull(t *testing.T) {
	s := full()
	if len(s.Graph.Nodes) != api.MaxNodes || len(s.Tree.Dirs) != 1+api.MaxDirs {
		t.Fatal(len(s.Graph.Nodes), len(s.Tree.Dirs))
	}
	if filesAsModel(t, s) {
		reads(t, "as much as may be", filesOf(t, s), s)
	} else {
		t.Error("it is refused")
	}
}

// R3: a file has Data alone, a directory none.
func TestFields(t *testing.T) {
	s := source(11)
	for _, x := range s.all(100) {
		for _, f := range filesOf(t, x) {
			// Of all files /pruned alone has no bytes.
			if f.Dir != isFolder(f.Path) || (f.Data == "") != (f.Dir || f.Path == "/pruned") {
				t.Fatalf("%+v", f)
			}
		}
	}
}

// R5: the same is answered again, whatever was asked in between, and however much spare room there is.
func TestSameAgain(t *testing.T) {
	s := source(12)
	for _, x := range s.mixed(100) {
		l, e := image.Files(x)
		spoilt := s.spoiltFiles(l)
		r, f := image.Read(spoilt)
		for range 3 {
			if again, h := image.Files(roomy(x)); h != e || !slices.Equal(again, l) {
				t.Fatalf("Files(%s): %s, error %d, then %s, error %d", flat(x), flat(l), e, flat(again), h)
			}
			if again, h := image.Read(roomy(spoilt)); h != f || !same(again, r) {
				t.Fatalf("Read(%s): %s, error %d, then %s, error %d", flat(spoilt), flat(r), f, flat(again), h)
			}
			if again := image.Empty(); !same(again, drawnEmpty()) {
				t.Fatalf("Empty: %s", flat(again))
			}
		}
	}
}

// The limits and errors of this layer.
func TestLimits(t *testing.T) {
	if api.MaxDirs != 256 || api.MaxPath != 1024 || api.MaxNodes != 128 || api.MaxText != 4096 || api.OK != 0 || api.ErrImage != 43 {
		t.Error("limits:", api.MaxDirs, api.MaxPath, api.MaxNodes, api.MaxText, api.OK, api.ErrImage)
	}
}
