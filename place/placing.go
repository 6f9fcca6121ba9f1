package place

import (
	"slices"

	"halyard/api"
	"halyard/pack"
	"halyard/tree"
	"halyard/walkup"
)

// placing is a tree that is under way. Its directories stand in the order in which they were placed.
type placing struct {
	nodes   []api.Node
	packs   []api.Package
	limits  api.Limits
	old     *api.Tree
	tree    api.Tree
	settled []settled
	before  int // how many were settled when the directory that is gone through was begun with
}

// settled is an edge of the directory at a place, and the place of what it finds, now and from now on.
type settled struct {
	dir   int
	label string
	with  int
}

// The kinds of edges, in the order in which those of a directory are gone through.
const (
	given  = iota // the node's context has its label: what it leads to is there already
	alone         // it leads to a node without a context
	beside        // it leads to a node with one, which must see what its dependant sees
	kinds
)

// run goes through the directories; those that are placed meanwhile come behind.
func (p *placing) run() api.Errno {
	for dir := 0; dir < len(p.tree.Dirs); dir++ {
		if e := p.goThrough(dir); e != api.OK {
			return e
		}
	}
	return api.OK
}

// goThrough settles the edges of a directory.
func (p *placing) goThrough(dir int) api.Errno {
	p.before = len(p.settled)
	n := p.nodes[p.tree.Dirs[dir].Node]
	for kind := range kinds {
		for _, e := range n.Edges {
			if p.kindOf(n, e) != kind {
				continue
			}
			with, errno := p.lead(dir, e, kind)
			if errno != api.OK {
				return errno
			}
			p.settled = append(p.settled, settled{dir: dir, label: e.Label, with: with})
		}
	}
	return api.OK
}

func (p *placing) kindOf(n api.Node, e api.Edge) int {
	switch {
	case slices.ContainsFunc(n.Context, func(q api.Pin) bool { return q.Name == e.Label }):
		return given
	case len(p.nodes[e.To].Context) == 0:
		return alone
	}
	return beside
}

// lead is the place of the directory to which an edge leads: what is found, if it will do; else it is placed.
func (p *placing) lead(dir int, e api.Edge, kind int) (int, api.Errno) {
	found := walkup.Look(p.tree, dir, e.Label)
	if p.isOf(found, e.To) && (kind != beside || p.seesTheSame(found, p.nodes[e.To].Context)) {
		return found, api.OK
	}
	path := p.tree.Dirs[dir].Path
	switch kind {
	case given:
		return 0, api.ErrGraph
	case alone:
		path = p.spot(path, found, e)
	}
	return p.place(path, e)
}

// isOf tells whether something was found, and is a directory of a node.
func (p *placing) isOf(found, node int) bool { return found >= 0 && p.tree.Dirs[found].Node == node }

// seesTheSame tells whether what was found sees, by all names of its context, the very directories that the one that is gone through does.
func (p *placing) seesTheSame(found int, context []api.Pin) bool {
	for _, q := range context {
		with := p.settledWith(q.Name)
		if with < 0 || walkup.Look(p.tree, found, q.Name) != with {
			return false
		}
	}
	return true
}

// settledWith is the place with which an edge of the directory that is gone through is settled; -1: it is not, or not yet.
func (p *placing) settledWith(label string) int {
	for _, x := range p.settled[p.before:] {
		if x.label == label {
			return x.with
		}
	}
	return -1
}

// spot is the path of the directory in whose modules a node without a context is placed, for an edge of the one at a path, which finds another node there, or none.
func (p *placing) spot(path []string, found int, e api.Edge) []string {
	top := 0
	if found >= 0 {
		// Where it stands the name is taken; further up it would be found first.
		top = len(p.tree.Dirs[found].Path)
	}
	// The directory itself is a spot, always: nothing in it was gone through yet.
	nearest := len(path)
	others := p.settledBy(e.Label)
spots:
	for depth := top; depth <= len(path); depth++ {
		for _, x := range others {
			if p.wouldTurn(x, path[:depth]) {
				continue spots
			}
		}
		if p.isLiked(path[:depth], e) {
			return path[:depth]
		}
		nearest = min(nearest, depth)
	}
	return path[:nearest]
}

// settledBy is what is settled for a label, of all directories.
func (p *placing) settledBy(label string) []settled {
	var l []settled
	for _, x := range p.settled {
		if x.label == label {
			l = append(l, x)
		}
	}
	return l
}

// wouldTurn tells whether a settled edge would find what is placed in the modules of the directory at a path, and not what it was settled with: it is that directory's, or of one in it, and what it was settled with stands further up.
func (p *placing) wouldTurn(x settled, path []string) bool {
	from := p.tree.Dirs[x.dir].Path
	return len(from) >= len(path) && slices.Equal(from[:len(path)], path) && len(p.tree.Dirs[x.with].Path) <= len(path)
}

// isLiked tells whether the old tree has, in the modules of the directory at a path, the package to which an edge leads.
func (p *placing) isLiked(path []string, e api.Edge) bool {
	if p.old == nil {
		return false
	}
	at := tree.Find(*p.old, within(path, e.Label))
	return at >= 0 && pack.Same(p.old.Dirs[at].Pack, p.packs[e.To])
}

// within is the path of a name in the modules of the directory at a path.
func within(path []string, name string) []string { return slices.Concat(path, []string{name}) }

// place places the node to which an edge leads in the modules of the directory at a path, and tells where it stands.
func (p *placing) place(path []string, e api.Edge) (int, api.Errno) {
	made := api.Dir{Path: within(path, e.Label), Pack: p.packs[e.To], Node: e.To}
	if len(tree.Text(made.Path)) > p.limits.Path {
		return 0, api.ErrTooLong
	}
	// The root is one of them, and does not count.
	if len(p.tree.Dirs) > p.limits.Dirs {
		return 0, api.ErrTooDeep
	}
	p.tree.Dirs = append(p.tree.Dirs, made)
	return len(p.tree.Dirs) - 1, api.OK
}
