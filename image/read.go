package image

import (
	"iter"
	"slices"
	"strings"

	"halyard/api"
	"halyard/lock"
	"halyard/manifest"
	"halyard/pack"
	"halyard/tree"
	"halyard/walkup"
)

// mostFiles is how many a state may have: three of its own, the root's modules, and of each directory itself, its package and its modules.
const mostFiles = 4 + 3*api.MaxDirs

// Read is the project that lies on a disk.
func Read(l []api.File) (api.State, api.Errno) {
	if len(l) == 0 {
		return Empty(), api.OK
	}
	// Lists that are far too long are not gone through.
	if len(l) > mostFiles {
		return api.State{}, api.ErrImage
	}
	l = sorted(slices.Values(l))
	s := guessed(l)
	if own, e := Files(s); e != api.OK || !slices.Equal(own, l) {
		return api.State{}, api.ErrImage
	}
	return s, api.OK
}

// sorted is files by their paths.
func sorted(files iter.Seq[api.File]) []api.File {
	return slices.SortedFunc(files, func(a, b api.File) int { return strings.Compare(a.Path, b.Path) })
}

// guessed is the only state that could have those files, which stand by their paths. What can't be read is left out of it: then it may not be, or has other files.
func guessed(l []api.File) api.State {
	files := byPath(l)
	m, _ := manifest.Parse(files[manifestFile].Data)
	g, _ := lock.Parse(files[lockFile].Data)
	t := guessedTree(l, files)
	nodes, _ := walkup.Map(t, g)
	for i, n := range nodes {
		t.Dirs[i].Node = n
	}
	_, pruned := files[prunedFile]
	return api.State{Manifest: m, Graph: g, Tree: t, Pruned: pruned}
}

// guessedTree is the root, and at each path's text the directory with the package that lies in it. Which nodes they are is told only when all are there: till then each is one that may be.
func guessedTree(l []api.File, files map[string]api.File) api.Tree {
	t := Empty().Tree
	for _, f := range l {
		if path, ok := tree.Parse(f.Path); ok {
			p, _ := pack.Parse(files[f.Path+ownFile].Data)
			t.Dirs = append(t.Dirs, api.Dir{Path: path, Pack: p, Node: 1})
		}
	}
	return t
}

func byPath(l []api.File) map[string]api.File {
	files := map[string]api.File{}
	for _, f := range l {
		files[f.Path] = f
	}
	return files
}
