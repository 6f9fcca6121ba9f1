package plain_test

import (
	"testing"

	"halyard/api"
	"halyard/disk"
	"halyard/edit"
	"halyard/graph"
	"halyard/image"
	"halyard/plain"
	"halyard/project"
)

// enough tells a fault unless each of some errors came about so often.
func enough(t *testing.T, met map[api.Errno]int, least int, l ...api.Errno) {
	t.Helper()
	for _, e := range l {
		if met[e] < least {
			t.Errorf("error %d: %d times", e, met[e])
		}
	}
}

// P21.1: any search, in any limits, tells what resolve.Run tells; and what is found is a solution.
func TestAsResolve(t *testing.T) {
	s := source(1)
	met := map[api.Errno]int{}
	great := 0
	for range 1500 {
		x := s.someTask()
		for i := range 4 {
			g, n, e := x.asRun(t, "any search")
			met[e]++
			if e == api.OK && graph.Check(g, x.c, x.m, x.dev) != api.OK {
				t.Fatalf("%s: %s is no solution", x, flat(g))
			}
			if i == 0 && len(g.Nodes) > 8 && n > 2*len(g.Nodes) {
				great++
			}
			x = x.within(1+s.below(1<<s.below(13)), 1+s.below(1<<s.below(8)))
		}
	}
	enough(t, met, 200, api.OK, api.ErrUnsat, api.ErrBudget, api.ErrTooMany)
	if great < 50 {
		t.Error("great searches:", great)
	}
}

// P21.1, R1, R2, R6: at any arguments, of which few may be, Resolve tells what resolve.Run tells.
func TestAnyArgumentsOfResolve(t *testing.T) {
	s := source(2)
	met := map[api.Errno]int{}
	wrong := noManifests()
	for range 4000 {
		x := s.someTask()
		switch s.below(4) {
		case 0:
			x = x.within(s.someNumber(), s.someNumber())
		case 1:
			x.m = pick(&s, wrong...)
		case 2:
			x.m = api.Manifest{Deps: s.anyDeps(), Dev: s.anyDeps(), Optional: s.anyDeps(), Overrides: s.anyDeps()}
		}
		x.l.Dirs, x.l.Path = s.someNumber(), s.someNumber()
		for range s.below(5) {
			x.pins = append(x.pins, api.Pin{Name: s.someName(), Version: pick(&s, append(noVersions(), version("2"))...)})
		}
		if s.below(20) == 0 {
			x.c = nil
		}
		_, _, e := x.asRun(t, "any arguments")
		met[e]++
	}
	enough(t, met, 50, api.OK, api.ErrArg, api.ErrUnsat, api.ErrTooMany)
}

// anyDeps is Deps of which few may be.
func (s *source) anyDeps() []api.Dep {
	var l []api.Dep
	for range s.below(3) {
		d := api.Dep{Name: s.someName(), Range: ranged(s.someText())}
		if s.below(9) == 0 {
			d.Range = []api.Span{{Lo: pick(s, noVersions()...), Hi: version("1")}}
		}
		l = append(l, d)
	}
	return l
}

// P21.2: any graph, a solution or none, in any limits, with or without an old tree, comes to what place.Run tells of its packages.
func TestAsPlace(t *testing.T) {
	s := source(3)
	met := map[api.Errno]int{}
	s.places(t, 120, func(what string, x placed) {
		_, e := x.asRun(t, what)
		met[e]++
	})
	enough(t, met, 300, api.OK, api.ErrGraph, api.ErrTooLong, api.ErrTooDeep)
}

// P21.2, R1, R2, R6: at any arguments, of which few may be, Place tells what place.Run tells.
func TestAnyArgumentsOfPlace(t *testing.T) {
	s := source(4)
	met := map[api.Errno]int{}
	for range 15000 {
		x := placed{c: published("a 1.0.0", "a- 1.0.0", "b 0.0.0"), l: widest}
		for range s.below(6) {
			n := api.Node{Name: s.someName(), Version: api.Version{Major: s.below(3) - 1}}
			if len(x.g.Nodes) == 0 && s.below(9) > 0 {
				n = api.Node{}
			}
			for range s.below(3) {
				n.Edges = append(n.Edges, api.Edge{Label: s.someName(), To: pick(&s, s.below(6), s.someNumber())})
			}
			for range s.below(2) {
				n.Context = append(n.Context, api.Pin{Name: s.someName(), Version: version("1")})
			}
			x.g.Nodes = append(x.g.Nodes, n)
		}
		if s.below(3) == 0 {
			x.l = api.Limits{Dirs: s.someNumber(), Path: s.someNumber(), Decisions: s.someNumber(), Nodes: s.someNumber()}
		}
		if s.below(3) == 0 {
			old := s.someOld(x.c.All())
			old.Dirs[s.below(len(old.Dirs))].Node = s.someNumber()
			x.old = &old
		}
		if s.below(20) == 0 {
			x.c = nil
		}
		_, e := x.asRun(t, "any arguments")
		met[e]++
	}
	enough(t, met, 200, api.OK, api.ErrArg, api.ErrTree, api.ErrGraph)
}

// P21.3: any step of any state comes to what edit.Do tells: of projects that commands came to, of others, and of such as may not be.
func TestAsEdit(t *testing.T) {
	s := source(5)
	met, done := map[api.Errno]int{}, map[int]int{}
	s.mixed(t, 250, func(p *session, x api.Step) {
		next, a := p.asEdit(x)
		if met[a.Code]++; a.Code == api.OK {
			done[x.Op]++
		} else if a != (api.Answer{Code: a.Code}) || !same(next, p.s) {
			t.Fatalf("%s of %s: %+v, %s", flat(x), flat(p.s), a, flat(next))
		}
	})
	for _, op := range ops {
		if done[op] < 50 {
			t.Errorf("Op %d: done %d times", op, done[op])
		}
	}
	enough(t, met, 20, api.ErrArg, api.ErrOp, api.ErrName, api.ErrRange, api.ErrWant, api.ErrUnsat, api.ErrBudget, api.ErrTooMany, api.ErrTooLong, api.ErrTooDeep)
	if met[api.ErrGraph]+met[api.ErrTree] > 0 {
		t.Error("errors that can't be:", met)
	}
}

// P21.1 to P21.3: what Do comes to is what Resolve and Place tell: a solution, its tree, and a state that may be.
func TestDoIsResolveAndPlace(t *testing.T) {
	s := source(6)
	done := 0
	s.walks(t, 60, func(p *session, _ api.Step) {
		next, a := p.asEdit(install())
		if a.Code != api.OK {
			return
		}
		done++
		g, n, e := plain.Resolve(p.c, next.Manifest, true, nil, p.l)
		placed, f := plain.Place(g, p.c, p.l, nil)
		if e != api.OK || f != api.OK || n != a.Decisions || !graph.Same(g, next.Graph) || !sameTree(placed, next.Tree) {
			t.Fatalf("an install of %s: %s, but %s, %d, error %d, %s, error %d", flat(p.s), flat(next), flat(g), n, e, flat(placed), f)
		}
		if _, e := image.Files(next); e != api.OK || graph.Check(g, p.c, next.Manifest, true) != api.OK {
			t.Fatalf("an install of %s: %s may not be", flat(p.s), flat(next))
		}
	})
	if done < 300 {
		t.Error("too few:", done)
	}
}

// What follows: a project that goes through the same commands by this and by edit comes to the same, and so does one on a disk (W2).
func TestSameCommands(t *testing.T) {
	s := source(7)
	done := 0
	for range 60 {
		p := begun(t)
		p.c = filled(s.somePacks())
		d := disk.New()
		lies, e := project.Open(d, p.c, p.l)
		if e != api.OK {
			t.Fatal(e)
		}
		edited := p.s
		for range 20 {
			x := s.someStep()
			var a, b api.Answer
			p.s, a = plain.Do(p.s, p.c, x, p.l)
			edited, b = edit.Do(edited, p.c, x, p.l)
			c := lies.Do(x)
			if a != b || a != c || !same(p.s, edited) || !same(p.s, lies.State()) {
				t.Fatalf("%s: %+v by plain, %+v by edit, %+v on a disk: %s, %s, %s", flat(x), a, b, c, flat(p.s), flat(edited), flat(lies.State()))
			}
			if read, e := image.Read(d.All()); e != api.OK || !same(read, p.s) {
				t.Fatalf("%s: %s lies on the disk, not %s", flat(x), flat(read), flat(p.s))
			}
			if a.Code == api.OK {
				done++
			}
		}
	}
	if done < 400 {
		t.Error("too few:", done)
	}
}

// full is nearly as many packages as may be, of which trees have many directories: each of 15 names has 8 versions, which need one of the next name each, and like any of the one behind that.
func full() []string {
	var l []string
	of := names("f", 15)
	for i, name := range of {
		for v := range 8 {
			text := name + " " + string(rune('1'+v)) + ".0.0"
			if i < 14 {
				text += "; needs " + of[i+1] + " " + string(rune('1'+(v*3+i)%8)) + ".0.0"
			}
			if i < 13 {
				text += "; likes " + of[i+2] + " *"
			}
			l = append(l, text)
		}
	}
	return l
}

// R1, P21.3: a project that is great goes through commands soon enough, and comes to the same as by edit.
func TestFull(t *testing.T) {
	p := begun(t, full()...).within(widest)
	for i, name := range names("f", 8) {
		p.does(add(name, []string{"*", "3.0.0", "<=5.0.0"}[i%3], i%3))
	}
	p.doesAll(install(), dedupe(), update("f005"), override("f010", "<=4.0.0"), update(""), prune(), install())
	if len(p.s.Graph.Nodes) < 60 || len(p.s.Tree.Dirs) < 100 {
		t.Error("too few:", len(p.s.Graph.Nodes), len(p.s.Tree.Dirs))
	}
}
