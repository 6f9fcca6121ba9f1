package plain

import (
	"slices"
	"strings"

	"halyard/api"
	"halyard/copies"
	"halyard/pack"
	"halyard/tree"
)

// placing is a tree that is under way, and what it is made of.
type placing struct {
	nodes  []api.Node
	packs  []api.Package
	limits api.Limits
	old    *api.Tree
	order  []*dir // as they were placed
}

// goThrough goes through the directory at a place of the order, and within that through all behind it, also such as are placed meanwhile.
func (p *placing) goThrough(at int) api.Errno {
	if at == len(p.order) {
		return api.OK
	}
	d := p.order[at]
	given, alone, beside := p.parted(p.nodes[d.node])
	if e := settle(d, given, mustFind); e != api.OK {
		return e
	}
	if e := settle(d, alone, p.alone); e != api.OK {
		return e
	}
	if e := settle(d, beside, p.beside); e != api.OK {
		return e
	}
	return p.goThrough(at + 1)
}

// parted is a node's edges: those whose label is in its context; of the others those that lead to nodes without a context, and those that lead to nodes with one.
func (p *placing) parted(n api.Node) (given, alone, beside []api.Edge) {
	for _, e := range n.Edges {
		switch {
		case slices.ContainsFunc(n.Context, func(q api.Pin) bool { return q.Name == e.Label }):
			given = append(given, e)
		case len(p.nodes[e.To].Context) == 0:
			alone = append(alone, e)
		default:
			beside = append(beside, e)
		}
	}
	return given, alone, beside
}

// settle settles edges of a directory, each with the one to which lead leads it.
func settle(d *dir, l []api.Edge, lead func(*dir, api.Edge) (*dir, api.Errno)) api.Errno {
	for _, e := range l {
		with, errno := lead(d, e)
		if errno != api.OK {
			return errno
		}
		d.settled[e.Label] = with
	}
	return api.OK
}

// mustFind places nothing: what a node has beside it stands there already.
func mustFind(d *dir, e api.Edge) (*dir, api.Errno) {
	if found := find(d, e); found != nil {
		return found, api.OK
	}
	return nil, api.ErrGraph
}

// alone places what is not found as near to the root as may be.
func (p *placing) alone(d *dir, e api.Edge) (*dir, api.Errno) {
	if found := find(d, e); found != nil {
		return found, api.OK
	}
	return p.place(p.spot(d, e), e)
}

// beside takes what is found only if that sees, by each name of its context, the very directory that was settled for its dependant.
func (p *placing) beside(d *dir, e api.Edge) (*dir, api.Errno) {
	found := find(d, e)
	seesAnother := func(q api.Pin) bool { return d.settled[q.Name] == nil || look(found, q.Name) != d.settled[q.Name] }
	if found != nil && !slices.ContainsFunc(p.nodes[e.To].Context, seesAnother) {
		return found, api.OK
	}
	return p.place(d, e)
}

// spot is the directory in whose modules a node without a context is placed. There is always one: nothing in the directory that is gone through was gone through yet.
func (p *placing) spot(d *dir, e api.Edge) *dir {
	spots := slices.DeleteFunc(free(d, e.Label), func(s *dir) bool { return seesPast(s, s, e.Label) })
	liked := slices.IndexFunc(spots, func(s *dir) bool { return p.isLiked(s, e) })
	return spots[max(liked, 0)]
}

// isLiked tells whether the old tree has, in the modules of a directory, the package to which an edge leads.
func (p *placing) isLiked(s *dir, e api.Edge) bool {
	if p.old == nil {
		return false
	}
	at := tree.Find(*p.old, s.inside(e.Label))
	return at >= 0 && pack.Same(p.old.Dirs[at].Pack, p.packs[e.To])
}

// place places the node to which an edge leads in the modules of a directory.
func (p *placing) place(s *dir, e api.Edge) (*dir, api.Errno) {
	made := newDir(s, s.inside(e.Label), e.To)
	if len(tree.Text(made.path)) > p.limits.Path {
		return nil, api.ErrTooLong
	}
	// The root is one of them, and is not counted.
	if len(p.order)-1 == p.limits.Dirs {
		return nil, api.ErrTooDeep
	}
	s.modules[e.Label] = made
	p.order = append(p.order, made)
	return made, api.OK
}

// told is the tree, by the texts of its paths.
func (p *placing) told() api.Tree {
	var t api.Tree
	for _, d := range p.order {
		t.Dirs = append(t.Dirs, api.Dir{Path: d.path, Pack: p.packs[d.node], Node: d.node})
	}
	slices.SortFunc(t.Dirs, func(a, b api.Dir) int { return strings.Compare(tree.Text(a.Path), tree.Text(b.Path)) })
	return copies.Tree(t)
}
