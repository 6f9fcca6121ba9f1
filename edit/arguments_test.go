package edit_test

import (
	"math"
	"testing"

	"halyard/api"
	"halyard/catalog"
	"halyard/image"
)

// asked is one step of each command that is done of a project that wants a, overrides b, and has both.
func asked() []api.Step {
	return []api.Step{install(), add("a", "*", 1), remove("a"), update("a"), update(""), dedupe(), prune(), override("a", "*"), override("b", "")}
}

// standing is a project that wants a, overrides b, and has both.
func standing(t *testing.T) *session {
	return begun(t, published(chapter()...)).doesAll(add("a", "*", 0), override("b", "*"))
}

// wrong is steps that are wrong in themselves, and such as no command is.
func wrong() []api.Step {
	return []api.Step{add("A", "x", 9), add("a", "x", 0), remove("A"), remove("zz"), update("A"), update("zz"), override("A", "x"), override("zz", ""), add("zz", "*", 0), {Op: 0}, {Op: 99}}
}

// P19.1: without a catalog.
func TestNoCatalog(t *testing.T) {
	p := standing(t)
	p.c = nil
	for _, x := range append(asked(), wrong()...) {
		p.refuses(x, api.ErrArg)
		// Also where other arguments may not be either.
		p.within(api.Limits{}).refuses(x, api.ErrArg)
	}
	p.s = api.State{}
	p.refuses(install(), api.ErrArg)
}

// P19.1: each of the limits one below and one above what it may be, far outside, and at both ends.
func TestLimitsMayBe(t *testing.T) {
	p := standing(t)
	for _, limit := range []struct {
		name string
		at   func(l *api.Limits) *int
		most int
	}{
		{"Decisions", func(l *api.Limits) *int { return &l.Decisions }, 4096},
		{"Nodes", func(l *api.Limits) *int { return &l.Nodes }, 128},
		{"Dirs", func(l *api.Limits) *int { return &l.Dirs }, 256},
		{"Path", func(l *api.Limits) *int { return &l.Path }, 1024},
	} {
		for _, n := range []int{0, -1, limit.most + 1, limit.most + 2, math.MinInt, math.MaxInt} {
			l := example
			*limit.at(&l) = n
			for _, x := range append(asked(), wrong()...) {
				p.within(l).refuses(x, api.ErrArg)
			}
		}
		// Nothing is wanted here, so that the least limit is enough.
		for _, n := range []int{1, 2, limit.most - 1, limit.most} {
			l := example
			*limit.at(&l) = n
			begun(t, p.c).within(l).comesTo(install(), 0)
			// A limit that may be is none that the arguments are refused by.
			p.within(l).refuses(add("A", "*", 0), api.ErrName)
		}
		l := example
		*limit.at(&l) = limit.most
		p.within(l).comesTo(install(), 2, "a 1.0.0", "b 1.2.0")
	}
	begun(t, p.c).within(api.Limits{Decisions: 1, Nodes: 1, Dirs: 1, Path: 1}).comesTo(install(), 0)
	p.within(widest).comesTo(install(), 2, "a 1.0.0", "b 1.2.0")
	p.within(api.Limits{Decisions: 2, Nodes: 3, Dirs: 2, Path: len("/modules/a")}).comesTo(install(), 2, "a 1.0.0", "b 1.2.0")
}

// P19.1: a state that may not be, by each of its parts.
func TestStateMayNotBe(t *testing.T) {
	p := standing(t)
	for what, change := range map[string]func(s *api.State){
		"no graph":                    func(s *api.State) { s.Graph = api.Graph{} },
		"no tree":                     func(s *api.State) { s.Tree = api.Tree{} },
		"nothing":                     func(s *api.State) { *s = api.State{} },
		"nothing, and Pruned":         func(s *api.State) { *s = api.State{Pruned: true} },
		"a name that may not be":      func(s *api.State) { s.Manifest.Deps[0].Name = "A" },
		"a range of none":             func(s *api.State) { s.Manifest.Overrides[0].Range = nil },
		"a name in two lists":         func(s *api.State) { s.Manifest.Dev = s.Manifest.Deps },
		"a root with a name":          func(s *api.State) { s.Graph.Nodes[0].Name = "a" },
		"an edge that leads nowhere":  func(s *api.State) { s.Graph.Nodes[0].Edges[0].To = 9 },
		"a node of another version":   func(s *api.State) { s.Graph.Nodes[1].Version.Major++ },
		"an edge to another node":     func(s *api.State) { s.Graph.Nodes[0].Edges[0].To = 2 },
		"a package of another one":    func(s *api.State) { s.Tree.Dirs[1].Pack.Version.Patch++ },
		"a root with a package":       func(s *api.State) { s.Tree.Dirs[0].Pack.Name = "a" },
		"another number of a node":    func(s *api.State) { s.Tree.Dirs[1].Node = 2 },
		"directories in no order":     func(s *api.State) { s.Tree.Dirs[1], s.Tree.Dirs[2] = s.Tree.Dirs[2], s.Tree.Dirs[1] },
		"a directory that is missing": func(s *api.State) { s.Tree.Dirs = s.Tree.Dirs[:2] },
		"a directory twice":           func(s *api.State) { s.Tree.Dirs = append(s.Tree.Dirs, s.Tree.Dirs[2]) },
		"one that is not reached": func(s *api.State) {
			d := s.Tree.Dirs[2]
			d.Path = []string{"a", "a"}
			d.Pack.Name = "a"
			s.Tree.Dirs = []api.Dir{s.Tree.Dirs[0], s.Tree.Dirs[1], d, s.Tree.Dirs[2]}
		},
	} {
		q := p.clone()
		q.s = copied(p.s)
		change(&q.s)
		if _, e := image.Files(q.s); e != api.ErrImage {
			t.Errorf("%s: it may be", what)
		}
		for _, x := range append(asked(), wrong()...) {
			q.refuses(x, api.ErrArg)
		}
	}
}

// P19.1: a state that may be, though no command comes to it: its graph is no solution, and has nodes that are not reached.
func TestStateOfItsOwn(t *testing.T) {
	p := standing(t)
	p.s.Graph.Nodes = append(p.s.Graph.Nodes, api.Node{Name: "zz", Version: version("9.9.9")}, api.Node{Name: "b", Version: version("1.0.0")})
	p.does(update("zz"))
	p.has("what is not reached is gone", "a 1.0.0", "b 1.2.0")
	p.refuses(update("zz"), api.ErrWant)
	// It wants nothing of what it has.
	q := standing(t)
	q.s.Manifest = api.Manifest{}
	q.clone().comesTo(dedupe(), 0)
	q.clone().comesTo(add("b", "*", 0), 1, "b 1.2.0")
	// Pins of nodes that are not reached count, too.
	r := begun(t, p.c)
	r.s.Graph.Nodes = append(r.s.Graph.Nodes, api.Node{Name: "b", Version: version("1.0.0")})
	r.clone().comesTo(add("a", "*", 0), 2, "a 1.0.0", "b 1.0.0")
	r.clone().doesAll(install()).comesTo(add("a", "*", 0), 2, "a 1.0.0", "b 1.2.0")
}

// P19.1: an Op that is none of the seven, whatever else there is; behind what may not be handed in, ahead of all that commands ask.
func TestNoSuchOp(t *testing.T) {
	p := standing(t)
	for _, op := range []int{0, -1, -2, -8, api.StepPublish, api.StepCut, api.StepOpen, 11, 12, 258, 1 << 32, 1<<32 + 2, math.MinInt, math.MaxInt} {
		for _, x := range append(asked(), wrong()...) {
			x.Op = op
			p.refuses(x, api.ErrOp)
			begun(t, catalog.New()).refuses(x, api.ErrOp)
		}
		p.refuses(api.Step{Op: op, Pack: "package z 1.0.0\n", N: 3}, api.ErrOp)
		p.within(api.Limits{}).refuses(api.Step{Op: op}, api.ErrArg)
	}
}

// P19.1: each of the seven is told by its number.
func TestOps(t *testing.T) {
	p := standing(t)
	for op, want := range map[int]api.Errno{2: api.OK, 3: api.ErrName, 4: api.ErrName, 5: api.ErrName, 6: api.OK, 7: api.OK, 8: api.ErrName} {
		if _, a := p.asModel(api.Step{Op: op, Name: "A", Range: "x", Kind: 7}); a.Code != want {
			t.Errorf("Op %d: error %d, not %d", op, a.Code, want)
		}
	}
}

// P19.1: what a command does not use is not looked at.
func TestNotUsed(t *testing.T) {
	p := standing(t)
	names := append(noNames(), "", "a", "b", "zz")
	ranges := append(noRanges(), "", "*", "1.0.0")
	kinds := []int{0, 1, 2, 3, -1, math.MinInt, math.MaxInt}
	for _, x := range append(asked(), wrong()...) {
		next, a := p.asModel(x)
		differs := func(y api.Step) {
			t.Helper()
			if got, b := p.asModel(y); b != a || !same(got, next) {
				t.Errorf("%s: %+v, but %s: %+v", told(x), a, told(y), b)
			}
		}
		for i := range max(len(names), len(ranges), len(kinds)) {
			y := x
			y.Pack, y.N = names[i%len(names)], kinds[i%len(kinds)]
			switch x.Op {
			case api.StepInstall, api.StepDedupe, api.StepPrune:
				y.Name, y.Range, y.Kind = names[i%len(names)], ranges[i%len(ranges)], kinds[i%len(kinds)]
			case api.StepRemove, api.StepUpdate:
				y.Range, y.Kind = ranges[i%len(ranges)], kinds[i%len(kinds)]
			case api.StepOverride:
				y.Kind = kinds[i%len(kinds)]
			}
			differs(y)
		}
	}
}
