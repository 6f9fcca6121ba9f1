package image_test

import (
	"slices"
	"strings"

	"halyard/api"
	"halyard/lock"
	"halyard/manifest"
	"halyard/pack"
	"halyard/tree"
	"halyard/walkup"
)

// The model: files told directory by directory, and read from the root down, by the tests' own means.

func textOf(path []string) string {
	text := ""
	for _, name := range path {
		text += "/modules/" + name
	}
	return text
}

// modelFiles is a state's files; false, if it may not be.
func modelFiles(s api.State) ([]api.File, bool) {
	wanted, e := manifest.Print(s.Manifest)
	locked, f := lock.Print(s.Graph)
	if e != api.OK || f != api.OK {
		return nil, false
	}
	nodes, e := walkup.Map(s.Tree, s.Graph)
	if e != api.OK {
		return nil, false
	}
	l := []api.File{file("/manifest", wanted), file("/lock", locked)}
	if s.Pruned {
		l = append(l, file("/pruned", ""))
	}
	before := ""
	for i, d := range s.Tree.Dirs {
		text := textOf(d.Path)
		if nodes[i] != d.Node || i > 0 && before >= text {
			return nil, false
		}
		before = text
		if i > 0 {
			own, _ := pack.Print(d.Pack)
			l = append(l, folder(text), file(text+"/package", own))
		}
		if len(tree.Inside(s.Tree, i)) > 0 {
			l = append(l, folder(text+"/modules"))
		}
	}
	if len(l) == 2 && wanted == "project\n" && locked == "lock\nroot\n" {
		return nil, true
	}
	return inOrder(l), true
}

// inOrder is files by their paths, each put where it belongs.
func inOrder(l []api.File) []api.File {
	var out []api.File
	for _, f := range l {
		at := 0
		for at < len(out) && out[at].Path < f.Path {
			at++
		}
		out = slices.Insert(out, at, f)
	}
	return out
}

// reader takes files away, as they are met.
type reader struct {
	left map[string]api.File
	dirs []api.Dir
	ok   bool
}

// take takes a file, or a directory, and tells its bytes.
func (r *reader) take(path string, dir bool) string {
	f, there := r.left[path]
	if !there || f.Dir != dir || dir && f.Data != "" {
		r.ok = false
	}
	delete(r.left, path)
	return f.Data
}

// text takes a file whose bytes must be those that are printed of what is parsed.
func text[T any](r *reader, path string, parse func(string) (T, api.Errno), print func(T) (string, api.Errno)) T {
	data := r.take(path, false)
	v, e := parse(data)
	again, f := print(v)
	if e != api.OK || f != api.OK || again != data {
		r.ok = false
	}
	return v
}

// inside takes the modules of the directory of a path, and all that is in them.
func (r *reader) inside(path []string) {
	modules := textOf(path) + "/modules"
	if _, there := r.left[modules]; !there {
		return
	}
	r.take(modules, true)
	var names []string
	for at := range r.left {
		name, some := strings.CutPrefix(at, modules+"/")
		if some && !strings.Contains(name, "/") {
			names = append(names, name)
		}
	}
	if len(names) == 0 {
		r.ok = false
	}
	for _, name := range names {
		own := append(slices.Clone(path), name)
		r.take(textOf(own), true)
		p := text(r, textOf(own)+"/package", pack.Parse, pack.Print)
		r.dirs = append(r.dirs, api.Dir{Path: own, Pack: p, Node: 1})
		r.inside(own)
	}
}

// modelRead is the state of files; false, if there is none.
func modelRead(l []api.File) (api.State, bool) {
	s := api.State{Graph: api.Graph{Nodes: []api.Node{{}}}, Tree: api.Tree{Dirs: []api.Dir{{}}}}
	if len(l) == 0 {
		return s, true
	}
	r := &reader{left: map[string]api.File{}, ok: true}
	for _, f := range l {
		r.left[f.Path] = f
	}
	if len(r.left) < len(l) {
		return api.State{}, false
	}
	s.Manifest = text(r, "/manifest", manifest.Parse, manifest.Print)
	s.Graph = text(r, "/lock", lock.Parse, lock.Print)
	if _, s.Pruned = r.left["/pruned"]; s.Pruned && r.take("/pruned", false) != "" {
		r.ok = false
	}
	r.inside(nil)
	slices.SortFunc(r.dirs, func(a, b api.Dir) int { return strings.Compare(textOf(a.Path), textOf(b.Path)) })
	s.Tree.Dirs = append(s.Tree.Dirs, r.dirs...)
	if !r.ok || len(r.left) > 0 {
		return api.State{}, false
	}
	nodes, e := walkup.Map(s.Tree, s.Graph)
	if e != api.OK || slices.Contains(nodes, -1) {
		return api.State{}, false
	}
	for i, n := range nodes {
		s.Tree.Dirs[i].Node = n
	}
	if len(s.Graph.Nodes) == 1 && !s.Pruned && manifest.Same(s.Manifest, api.Manifest{}) {
		return api.State{}, false
	}
	return s, true
}
