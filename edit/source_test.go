package edit_test

import (
	"math"
	"slices"
	"strings"
	"testing"

	"halyard/api"
	"halyard/catalog"
	"halyard/edit"
	"halyard/image"
	"halyard/span"
	"halyard/tree"
	"halyard/walkup"
)

// source is numbers that look like chance, and are the same each time.
type source uint64

func (s *source) below(n int) int {
	*s = *s*6364136223846793005 + 1442695040888963407
	return int(uint64(*s) >> 33 % uint64(n))
}

func (s *source) pick(texts ...string) string { return texts[s.below(len(texts))] }

// few is names that are near to one another.
var few = []string{"a", "a-", "a-b", "a0", "aa", "b", "c", "modules", "package"}

// hosts are those that others need beside them, guests those that need them so.
var hosts, guests = []string{"a", "aa", "b"}, []string{"a-", "a0", "c"}

// someText is the text of a range that most versions are in.
func (s *source) someText() string {
	return s.pick("*", "*", "<=2.0.0", ">=2.0.0", "1.0.0 || 3.0.0", "^1.0.0", "2.0.0", "^3.0.0")
}

// someList puts some names into lists, each with a range.
func (s *source) someList(ease int, lists ...*[]api.Dep) {
	for _, n := range few {
		if k := s.below(ease); k < len(lists) {
			*lists[k] = append(*lists[k], api.Dep{Name: n, Range: ranged(s.someText())})
		}
	}
}

// somePack is what a package wants: of a wild catalog anything, of a tame one such that contexts stand more often.
func (s *source) somePack(p api.Package, tame bool) api.Package {
	if !tame {
		s.someList(25, &p.Deps, &p.Peers, &p.Optional)
		return p
	}
	isHost, isGuest := slices.Contains(hosts, p.Name), slices.Contains(guests, p.Name)
	for _, n := range few {
		forHost := slices.Contains(hosts, n)
		switch {
		case isGuest && forHost && s.below(2) == 0:
			p.Peers = append(p.Peers, api.Dep{Name: n, Range: span.All()})
		case !isHost && !isGuest && (forHost || s.below(3) == 0):
			p.Deps = append(p.Deps, api.Dep{Name: n, Range: ranged(s.someText())})
		case isHost && !forHost && !slices.Contains(guests, n) && s.below(10) == 0:
			p.Optional = append(p.Optional, api.Dep{Name: n, Range: ranged(s.someText())})
		}
	}
	return p
}

// somePacks is packages of all names, in three versions each, in any order.
func (s *source) somePacks() []api.Package {
	var l []api.Package
	tame := s.below(3) > 0
	for _, name := range few {
		for _, v := range []string{"1.0.0", "2.0.0", "3.0.0"} {
			p := s.somePack(api.Package{Name: name, Version: version(v)}, tame)
			l = slices.Insert(l, s.below(len(l)+1), p)
		}
	}
	return l
}

// someName is a name, most of the time one that may be.
func (s *source) someName() string {
	if s.below(25) == 0 {
		return s.pick(append(noNames(), "", "zz")...)
	}
	return s.pick(few...)
}

// someStep is a step, most of the time one that can be done.
func (s *source) someStep() api.Step {
	x := api.Step{Op: ops[s.below(len(ops))], Name: s.someName(), Range: s.someText(), Kind: s.below(3)}
	// There is nothing to be done without wants.
	if s.below(3) == 0 {
		x.Op = api.StepAdd
	}
	switch s.below(30) {
	case 0:
		x.Kind = []int{-1, 3, math.MinInt, math.MaxInt}[s.below(4)]
	case 1:
		x.Range = s.pick(noRanges()...)
	case 2:
		x.Op = []int{0, 1, 9, 10, 11, -1, math.MinInt, math.MaxInt}[s.below(8)]
	case 3, 4, 5, 6:
		x.Range = ""
	case 7, 8:
		x.Name = ""
	}
	x.Pack, x.N = s.pick("", "x", "package a 9.9.9\n"), s.below(5)
	return x
}

// someLimits is limits, most of the time wide ones.
func (s *source) someLimits() api.Limits {
	l := widest
	l.Decisions = 300
	switch s.below(12) {
	case 0:
		l.Decisions = 1 + s.below(12)
	case 1:
		l.Nodes = 1 + s.below(9)
	case 2:
		l.Dirs = 1 + s.below(9)
	case 3:
		l.Path = 9 + s.below(30)
	}
	return l
}

// walks goes through projects, each from the empty one on by some steps, while packages come out; visit is told each step ahead of its being done.
func (s *source) walks(t *testing.T, count int, visit func(p *session, x api.Step)) {
	for range count {
		p := begun(t, catalog.New())
		waiting := s.somePacks()
		for range 14 {
			out := s.below(len(waiting) + 1)
			if len(waiting) < 6 {
				out = len(waiting)
			}
			for _, q := range waiting[:out] {
				if e := p.c.Put(q); e != api.OK {
					t.Fatal(e)
				}
			}
			waiting = waiting[out:]
			x := s.someStep()
			p.l = s.someLimits()
			visit(p, x)
			p.s, _ = edit.Do(p.s, p.c, x, p.l)
		}
	}
}

// grown is a state that may be, of packages of a catalog whose directories stand anywhere, each being a node of its own that leads to all that it finds; some nodes more are not reached.
func (s *source) grown(c *catalog.Catalog) api.State {
	x := image.Empty()
	x.Pruned = s.below(2) == 0
	s.someList(6, &x.Manifest.Deps, &x.Manifest.Dev, &x.Manifest.Optional)
	s.someList(9, &x.Manifest.Overrides)
	all := c.All()
	for range s.below(20) {
		p := all[s.below(len(all))]
		path := append(slices.Clone(x.Tree.Dirs[s.below(len(x.Tree.Dirs))].Path), p.Name)
		if tree.Find(x.Tree, path) < 0 {
			x.Tree.Dirs = append(x.Tree.Dirs, api.Dir{Path: path, Pack: p})
		}
	}
	slices.SortFunc(x.Tree.Dirs, func(a, b api.Dir) int { return strings.Compare(tree.Text(a.Path), tree.Text(b.Path)) })
	x.Graph.Nodes = make([]api.Node, len(x.Tree.Dirs))
	for i := range x.Tree.Dirs {
		d := &x.Tree.Dirs[i]
		d.Node = i
		n := &x.Graph.Nodes[i]
		n.Name, n.Version = d.Pack.Name, d.Pack.Version
		for _, label := range few {
			if to := walkup.Look(x.Tree, i, label); to > 0 {
				n.Edges = append(n.Edges, api.Edge{Label: label, To: to})
			}
		}
	}
	for range s.below(3) {
		p := all[s.below(len(all))]
		x.Graph.Nodes = append(x.Graph.Nodes, api.Node{Name: p.Name, Version: p.Version, Context: []api.Pin{{Name: "a", Version: version("1.0.0")}}})
	}
	return x
}

// grownWalks goes through states that no command came to, with one step each.
func (s *source) grownWalks(t *testing.T, count int, visit func(p *session, x api.Step)) {
	for range count {
		p := begun(t, catalog.New())
		for _, q := range s.somePacks() {
			p.c.Put(q)
		}
		for range 8 {
			p.s = s.grown(p.c)
			if _, e := image.Files(p.s); e != api.OK {
				t.Fatalf("it may not be: %s", flat(p.s))
			}
			p.l = s.someLimits()
			visit(p, s.someStep())
		}
	}
}

// anything goes through states and steps of any kind, of which few may be.
func (s *source) anything(t *testing.T, count int, visit func(p *session, x api.Step)) {
	s.walks(t, count, func(p *session, x api.Step) {
		q := p.clone()
		q.s = s.spoilt(p.s)
		limit := func() int {
			return []int{0, 1, 5, 128, 256, 1024, 4096, 4097, -1, math.MinInt, math.MaxInt}[s.below(11)]
		}
		if s.below(4) == 0 {
			q.l = api.Limits{Decisions: limit(), Nodes: limit(), Dirs: limit(), Path: limit()}
		}
		if s.below(9) == 0 {
			q.c = nil
		}
		visit(q, x)
	})
}

// spoilt is a state that differs a little, so that perhaps it may not be.
func (s *source) spoilt(x api.State) api.State {
	x = copied(x)
	name := s.pick(append(noNames(), few...)...)
	number := []int{0, 1, 2, 3, -1, 1000, math.MinInt, math.MaxInt}[s.below(8)]
	i, j := s.below(len(x.Tree.Dirs)), s.below(len(x.Tree.Dirs))
	d, n := &x.Tree.Dirs[i], &x.Graph.Nodes[s.below(len(x.Graph.Nodes))]
	switch s.below(12) {
	case 0:
		x.Manifest.Dev = append(x.Manifest.Dev, api.Dep{Name: name, Range: span.All()})
	case 1:
		x.Manifest.Overrides = append(x.Manifest.Overrides, api.Dep{Name: name, Range: []api.Span{{Hi: api.Version{Major: number}}}})
	case 2:
		n.Version.Major = number
	case 3:
		n.Name = name
	case 4:
		n.Edges = append(n.Edges, api.Edge{Label: name, To: number})
	case 5:
		n.Context = append(n.Context, api.Pin{Name: name, Version: api.Version{Minor: number}})
	case 6:
		x.Graph.Nodes = append(x.Graph.Nodes, *n)
	case 7:
		d.Node = number
	case 8:
		d.Pack.Version.Patch = number
	case 9:
		x.Tree.Dirs[i], x.Tree.Dirs[j] = x.Tree.Dirs[j], x.Tree.Dirs[i]
	case 10:
		x.Tree.Dirs = slices.Delete(x.Tree.Dirs, i, i+1)
	case 11:
		x = api.State{Pruned: x.Pruned}
	}
	return x
}

// mixed goes through all of these.
func (s *source) mixed(t *testing.T, count int, visit func(p *session, x api.Step)) {
	s.walks(t, count, visit)
	s.grownWalks(t, count, visit)
	s.anything(t, count/2, visit)
}
