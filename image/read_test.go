package image_test

import (
	"fmt"
	"slices"
	"strings"
	"testing"

	"halyard/api"
	"halyard/image"
)

// P15.2: no files at all.
func TestReadNothing(t *testing.T) {
	reads(t, "none", nil, image.Empty())
	reads(t, "none", []api.File{}, image.Empty())
	s, e := image.Read(nil)
	if e != api.OK || len(s.Graph.Nodes) != 1 || len(s.Tree.Dirs) != 1 || s.Pruned {
		t.Errorf("Read of none: %s, error %d", flat(s), e)
	}
}

// orders is all orders of files.
func orders(l []api.File) [][]api.File {
	if len(l) == 0 {
		return [][]api.File{nil}
	}
	var out [][]api.File
	for _, rest := range orders(l[1:]) {
		for i := range len(rest) + 1 {
			out = append(out, slices.Insert(slices.Clone(rest), i, l[0]))
		}
	}
	return out
}

// P15.2: files in any order.
func TestAnyOrder(t *testing.T) {
	for _, s := range []api.State{chapter(), pruned(chapter()), pruned(image.Empty())} {
		for _, l := range orders(filesOf(t, s)) {
			reads(t, "another order", l, s)
		}
	}
	s := source(1)
	for _, x := range []api.State{rich(), pruned(rich()), crowded(6)} {
		l := filesOf(t, x)
		for range 20 {
			reads(t, "another order", s.shuffled(l), x)
		}
		slices.Reverse(l)
		reads(t, "the other way round", l, x)
	}
}

// with is files of which one differs.
func with(l []api.File, at int, change func(f *api.File)) []api.File {
	l = slices.Clone(l)
	change(&l[at])
	return l
}

// P15.2: of a project's files one less, one twice, one of the other kind, or with other bytes.
func TestEachFile(t *testing.T) {
	for _, s := range []api.State{chapter(), pruned(chapter()), rich(), pruned(rich())} {
		l := filesOf(t, s)
		for i, f := range l {
			if less := slices.Delete(slices.Clone(l), i, i+1); f.Path == "/pruned" {
				s.Pruned = false
				reads(t, "no /pruned", less, s)
			} else {
				refuses(t, "no "+f.Path, less)
			}
			refuses(t, f.Path+" twice", append(slices.Clone(l), f))
			refuses(t, f.Path+" twice, at the beginning", append([]api.File{f}, l...))
			refuses(t, f.Path+" twice, with other bytes", append(slices.Clone(l), api.File{Path: f.Path, Data: "x"}))
			refuses(t, f.Path+" twice, of both kinds", append(slices.Clone(l), api.File{Path: f.Path, Dir: !f.Dir}))
			refuses(t, f.Path+" twice, and one less", append(slices.Delete(slices.Clone(l), (i+1)%len(l), (i+1)%len(l)+1), f))
			refuses(t, f.Path+" of the other kind", with(l, i, func(f *api.File) { f.Dir = !f.Dir }))
			refuses(t, f.Path+" of the other kind, without bytes", with(l, i, func(f *api.File) { f.Dir, f.Data = !f.Dir, "" }))
			for _, more := range []string{"\n", "x", "x\n", " ", "\x00"} {
				refuses(t, f.Path+" with more bytes", with(l, i, func(f *api.File) { f.Data += more }))
				refuses(t, f.Path+" with more bytes ahead", with(l, i, func(f *api.File) { f.Data = more + f.Data }))
			}
			if f.Data != "" {
				refuses(t, f.Path+" without bytes", with(l, i, func(f *api.File) { f.Data = "" }))
				refuses(t, f.Path+" without the last byte", with(l, i, func(f *api.File) { f.Data = f.Data[:len(f.Data)-1] }))
				refuses(t, f.Path+" without the first byte", with(l, i, func(f *api.File) { f.Data = f.Data[1:] }))
			}
			for _, path := range []string{"", "/", f.Path[1:], f.Path + "/", "/" + f.Path, f.Path + "x", strings.ToUpper(f.Path)} {
				if path != "/modules/a/packagex" {
					refuses(t, f.Path+" at another path", with(l, i, func(f *api.File) { f.Path = path }))
				}
			}
		}
	}
}

// P15.2: a file or directory more than a project has.
func TestMore(t *testing.T) {
	more := []string{"", "/", "//", "x", "lock", "/x", "/lock/x", "/manifest/x", "/pruned/x", "/journal", "/journal/plan", "/package", "/modules/package", "/modules/x", "/modules/a/x",
		"/modules/a/lock", "/modules/a/manifest", "/modules/a/pruned", "/modules/a/modules/x", "/modules/a/package/x", "/modules/p/modules", "/modules/b/modules", "/modules/a/modules/b/modules",
		"/modules/A", "/modules/a/", "/modules/", "/modules//", "/modules/..", "/lock/", "/Lock", "/lock.x", "/pruned.x", "/modules2", "/modules-", "\xff", "\x00", "/modules/q/package", "/modules/q/modules"}
	for _, s := range []api.State{chapter(), rich(), pruned(rich()), pruned(image.Empty())} {
		l := filesOf(t, s)
		for _, path := range more {
			for _, data := range []string{"", "x", "package x 1.0.0\n"} {
				refuses(t, "a file more", append(slices.Clone(l), file(path, data)))
				refuses(t, "a file more, the first", append([]api.File{file(path, data)}, l...))
				refuses(t, "a directory more", append(slices.Clone(l), api.File{Path: path, Dir: true, Data: data}))
			}
			refuses(t, "that alone", []api.File{file(path, "")})
			refuses(t, "that alone, a directory", []api.File{folder(path)})
		}
		// A package directory more, to which no edge leads; one with another name than its package's.
		refuses(t, "a package directory more", append(slices.Clone(l), folder("/modules/x"), file("/modules/x/package", "package x 1.0.0\n")))
		refuses(t, "one of another name", append(slices.Clone(l), folder("/modules/x"), file("/modules/x/package", "package y 1.0.0\n")))
	}
}

// P15.2: /pruned is a file without bytes, of whichever state.
func TestPruned(t *testing.T) {
	for _, s := range []api.State{chapter(), rich(), changed(image.Empty(), func(s *api.State) { s.Manifest = wanting("likes z *") })} {
		l := filesOf(t, s)
		reads(t, "no /pruned", l, s)
		reads(t, "/pruned", append(slices.Clone(l), file("/pruned", "")), pruned(s))
		refuses(t, "/pruned with a byte", append(slices.Clone(l), file("/pruned", "x")))
		refuses(t, "/pruned with the byte 10", append(slices.Clone(l), file("/pruned", "\n")))
		refuses(t, "/pruned with the byte 0", append(slices.Clone(l), file("/pruned", "\x00")))
		refuses(t, "a directory /pruned", append(slices.Clone(l), folder("/pruned")))
		refuses(t, "/pruned twice", append(slices.Clone(l), file("/pruned", ""), file("/pruned", "")))
	}
	refuses(t, "/pruned alone", []api.File{file("/pruned", "")})
}

// P15.2: the texts of the empty state's manifest and graph are the files of no state, but of one that is Pruned.
func TestFilesOfNoState(t *testing.T) {
	l := []api.File{file("/lock", emptyLock), file("/manifest", emptyManifest)}
	refuses(t, "the empty state's texts", l)
	refuses(t, "the empty state's texts, the other way round", []api.File{l[1], l[0]})
	refuses(t, "the empty state's texts and modules", append(slices.Clone(l), folder("/modules")))
	reads(t, "the empty state's texts and /pruned", append(slices.Clone(l), file("/pruned", "")), pruned(image.Empty()))
	refuses(t, "the empty state's texts, /pruned and modules", append(slices.Clone(l), file("/pruned", ""), folder("/modules")))
	for _, f := range l {
		refuses(t, f.Path+" alone", []api.File{f})
	}
	refuses(t, "/modules alone", []api.File{folder("/modules")})
	refuses(t, "files without bytes", []api.File{file("/lock", ""), file("/manifest", "")})
	refuses(t, "texts changed places", []api.File{file("/lock", emptyManifest), file("/manifest", emptyLock)})
	l[1].Data = "project\nlikes z *\n"
	refuses(t, "modules with nothing in them", append(slices.Clone(l), folder("/modules")))
}

// P15.2: bytes that are another text of the same thing.
func TestOtherTexts(t *testing.T) {
	s := chapter()
	s.Manifest = wanting("needs a *", "pins a <=3.0.0")
	s.Tree.Dirs[1].Pack.Deps = wanting("needs b *", "needs c 1.0.0 || 3.0.0").Deps
	l := filesOf(t, s)
	reads(t, "the texts as they are written", l, s)
	for _, q := range []struct{ at, from, to string }{
		{"/manifest", "needs a *", "needs a >=0.0.0"},
		{"/manifest", "needs a *", "needs a * || 1.0.0"},
		{"/manifest", "<=3.0.0", "<3.0.1"},
		{"/manifest", "<=3.0.0", "3.0.0 || <3.0.0"},
		{"/modules/a/package", "needs b *", "needs b <=999.999.999"},
		{"/modules/a/package", "1.0.0 || 3.0.0", "3.0.0 || 1.0.0"},
		{"/modules/a/package", "1.0.0 || 3.0.0", "=1.0.0 || 3.0.0"},
		{"/lock", "to a 1", "to a 01"},
		{"/lock", "a 1.0.0", "a 1.0.00"},
	} {
		i := slices.Index(paths(l), q.at)
		if !strings.Contains(l[i].Data, q.from) {
			t.Fatal(q, l[i].Data)
		}
		refuses(t, q.to, with(l, i, func(f *api.File) { f.Data = strings.Replace(f.Data, q.from, q.to, 1) }))
	}
	// Another thing is another state.
	i := slices.Index(paths(l), "/manifest")
	reads(t, "another range", with(l, i, func(f *api.File) { f.Data = strings.Replace(f.Data, "<=3.0.0", "<=3.0.1", 1) }), changed(s, func(s *api.State) { s.Manifest = wanting("needs a *", "pins a <=3.0.1") }))
}

// P15.2: a package's bytes that are another package's.
func TestOtherPackages(t *testing.T) {
	l := filesOf(t, rich())
	var own []int
	for i, f := range l {
		if strings.HasSuffix(f.Path, "/package") {
			own = append(own, i)
		}
	}
	if len(own) != 7 {
		t.Fatal(own)
	}
	for _, i := range own {
		for _, j := range own {
			other := with(l, i, func(f *api.File) { f.Data = l[j].Data })
			// The two directories of one node may have other packages of its name and version.
			if inner := []string{"/modules/a/modules/b/package", "/modules/c/modules/b/package"}; i == j || slices.Contains(inner, l[i].Path) && slices.Contains(inner, l[j].Path) {
				if !readsAsModel(t, other) {
					t.Errorf("%s with the bytes of %s is refused", l[i].Path, l[j].Path)
				}
				continue
			}
			refuses(t, fmt.Sprintf("the bytes of %s in %s", l[j].Path, l[i].Path), other)
		}
	}
	i := slices.Index(paths(l), "/modules/p/package")
	for _, data := range []string{"package p 1.0.1\n", "package p 2.0.0\n", "package q 1.0.0\n", "package p 1.0.0", "packet p 1.0.0\n", "package P 1.0.0\n", "package p 1.0.0\nneeds a *\nlikes a *\n", "project\n", "lock\nroot\n"} {
		refuses(t, data, with(l, i, func(f *api.File) { f.Data = data }))
	}
	// Another package of that name and version is that one's.
	reads(t, "a package that needs nothing", with(l, i, func(f *api.File) { f.Data = "package p 1.0.0\n" }), changed(rich(), func(s *api.State) { s.Tree.Dirs[7].Pack.Peers = nil }))
}

// P15.2: a lock that is not the tree's.
func TestOtherLocks(t *testing.T) {
	l := filesOf(t, chapter())
	i := slices.Index(paths(l), "/lock")
	for _, data := range []string{emptyLock, "lock\nroot\nnode a 1.0.0\n", "lock\nroot\nto a 1\nnode a 1.0.1\n", "lock\nroot\nto a 1\nnode b 1.0.0\n", "lock\nroot\nto b 1\nnode a 1.0.0\n", "lock\nroot\nto a 2\nnode a 1.0.0\n", "lock\nroot\nto a 1\nto b 2\nnode a 1.0.0\nnode b 1.0.0\n", "lock\nroot\nto a 1\nnode a 1.0.0\nto a 2\nnode a 1.0.0\n", "lock\n"} {
		refuses(t, data, with(l, i, func(f *api.File) { f.Data = data }))
	}
	for data, g := range map[string]api.Graph{
		"lock\nroot\nto a 2\nnode a 2.0.0\nnode a 1.0.0\n":               drawn("root: a 2", "a 2", "a 1"),
		"lock\nroot\nto a 1\nnode a 1.0.0\nwith b 1.0.0\nto a 1\n":       drawn("root: a 1", "a 1 with b 1: a 1"),
		"lock\nroot\nto a 2\nnode a 1.0.0\nnode a 1.0.0\nnode z 1.0.0\n": drawn("root: a 2", "a 1", "a 1", "z 1"),
	} {
		want := changed(chapter(), func(s *api.State) { s.Graph, s.Tree.Dirs[1].Node = g, g.Nodes[0].Edges[0].To })
		reads(t, "another graph", with(l, i, func(f *api.File) { f.Data = data }), want)
	}
}

// P15.2: Node is what lookups tell, Path the names, Pack what lies there, in the order of the texts.
func TestReadFields(t *testing.T) {
	s, e := image.Read(filesOf(t, rich()))
	if e != api.OK || len(s.Tree.Dirs) != 8 {
		t.Fatal(flat(s), e)
	}
	for i, want := range []api.Dir{{}, {Path: []string{"a"}, Node: 1}, {Path: []string{"a", "b"}, Node: 4}, {Path: []string{"b"}, Node: 2}, {Path: []string{"c"}, Node: 3}, {Path: []string{"c", "b"}, Node: 4}, {Path: []string{"c", "d"}, Node: 6}, {Path: []string{"p"}, Node: 5}} {
		d := s.Tree.Dirs[i]
		if !slices.Equal(d.Path, want.Path) || d.Node != want.Node || i > 0 && (d.Pack.Name != d.Path[len(d.Path)-1] || d.Pack.Version != s.Graph.Nodes[d.Node].Version) {
			t.Errorf("directory %d: %+v", i, d)
		}
	}
	if root := s.Tree.Dirs[0].Pack; fmt.Sprint(root) != fmt.Sprint(api.Package{}) {
		t.Errorf("the root's package: %v", root)
	}
}
