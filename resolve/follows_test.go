package resolve_test

import (
	"slices"
	"testing"

	"halyard/api"
	"halyard/graph"
	"halyard/lock"
)

// P11.1, P11.2, P11.4: any search, in any limits, comes to what the model does; what it finds is a solution, and just its own limits are enough.
func TestAsModel(t *testing.T) {
	s := source(1)
	met := map[api.Errno]int{}
	great := 0
	for range 1500 {
		x := s.someTask()
		met[x.asModel(t, "any task")]++
		for range 3 {
			y := x.within(1+s.below(1<<s.below(13)), 1+s.below(1<<s.below(8)))
			met[y.asModel(t, "any task in any limits")]++
		}
		if g, n, _ := x.run(); len(g.Nodes) > 8 && n > 2*len(g.Nodes) {
			great++
		}
	}
	for _, e := range []api.Errno{api.OK, api.ErrUnsat, api.ErrBudget, api.ErrTooMany} {
		if met[e] < 200 {
			t.Errorf("%d searches came to the error %d", met[e], e)
		}
	}
	if great < 50 {
		t.Errorf("%d great searches", great)
	}
}

// P11.2, W1: what is told is a solution, whichever limits and pins and dev: for these, and not for others.
func TestSound(t *testing.T) {
	s := source(2)
	found, others := 0, 0
	for range 1000 {
		x := s.someTask()
		for _, y := range []task{x, x.without(), x.liking("a 1.0.0, b 1.0.0, aa 2.0.0")} {
			if g, _, e := y.run(); e == api.OK {
				found++
				y.isSound(t, "any task", g)
				if y.dev && graph.Check(g, y.c, y.m, false) != api.OK {
					others++
				}
			}
		}
	}
	if found < 500 || others < 50 {
		t.Errorf("%d found, %d of which only with dev", found, others)
	}
}

// P11.2: what is told has the form of a graph, so that it has a text, of which it comes back as the same.
func TestSolutionsHaveTexts(t *testing.T) {
	s := source(3)
	for range 300 {
		x := s.someTask()
		g, _, e := x.run()
		if e != api.OK {
			continue
		}
		text, e := lock.Print(g)
		back, e2 := lock.Parse(text)
		if e != api.OK || e2 != api.OK || !graph.Same(g, back) {
			t.Fatalf("%s: errors %d, %d", flat(g), e, e2)
		}
	}
}

// smallTask is a task of three names, of which the packages want one another more often.
func (s *source) smallTask() task {
	x := s.someTask()
	var all []api.Package
	for _, name := range few[:3] {
		for i := range 2 {
			p := api.Package{Name: name, Version: version(1+i, 0, 0)}
			to := []*[]api.Dep{&p.Deps, &p.Peers, &p.Peers, &p.Optional}
			for _, n := range few[:3] {
				if k := s.below(9); k < 4 {
					*to[k] = append(*to[k], deps(n+" "+s.pick("*", "1.0.0", "2.0.0", "3.0.0"))...)
				}
			}
			all = append(all, p)
		}
	}
	x.c = filled(all...)
	for _, l := range []*[]api.Dep{&x.m.Deps, &x.m.Dev, &x.m.Optional} {
		*l = slices.DeleteFunc(*l, func(d api.Dep) bool { return d.Name > few[2] })
	}
	return x
}

// P11.3, W2: ErrUnsat is told only where there is no solution of any size; and where there is none, no graph is told.
func TestComplete(t *testing.T) {
	s := source(4)
	met := map[bool]int{}
	for range 1500 {
		x := s.smallTask()
		_, n, e := x.run()
		if e != api.OK && e != api.ErrUnsat {
			continue
		}
		if x.solvable() != (e == api.OK) {
			t.Fatalf("Run of %v, %v: error %d, though there is a solution: %v", x, x.c.All(), e, x.solvable())
		}
		// Those that are solved at once say little.
		if e == api.ErrUnsat || n > 6 {
			met[e == api.OK]++
		}
	}
	if met[true] < 100 || met[false] < 100 {
		t.Errorf("%d with a solution, %d without", met[true], met[false])
	}
}

// P11.3: one of many choices of a node alone leads to a solution, and it is found, wherever it stands.
func TestTheOnlySolution(t *testing.T) {
	s := source(5)
	for range 100 {
		// Versions of four packages, of which the last one stands beside one choice of the others alone.
		var all []string
		names := []string{"a", "b", "c"}
		right := map[string]string{}
		for _, n := range names {
			right[n] = s.pick("1.0.0", "2.0.0", "3.0.0")
			all = append(all, n+" 1.0.0", n+" 2.0.0", n+" 3.0.0")
		}
		all = append(all, "p 1.0.0; beside a "+right["a"]+", b "+right["b"]+", c "+right["c"])
		of("needs a, b, c, p", all...).asModel(t, "the only solution")
		g, _, e := of("needs a, b, c, p", all...).run()
		want := drawn("root: a 1, b 2, c 3, p 4", "a "+right["a"], "b "+right["b"], "c "+right["c"],
			"p 1.0.0 with a "+right["a"]+", b "+right["b"]+", c "+right["c"]+": a 1, b 2, c 3")
		if e != api.OK || flat(g) != flat(want) {
			t.Errorf("the only solution: %s, error %d, not %s", flat(g), e, flat(want))
		}
	}
}

// P11.4: the order in which packages came into the catalog does not matter.
func TestOrderOfPackages(t *testing.T) {
	s := source(6)
	for range 300 {
		x := s.someTask()
		g, n, e := x.run()
		all := x.c.All()
		for range 3 {
			for i := range all {
				j := s.below(i + 1)
				all[i], all[j] = all[j], all[i]
			}
			y := x
			y.c = filled(all...)
			if got, n2, e2 := y.run(); flat(got) != flat(g) || n2 != n || e2 != e {
				t.Fatalf("Run of %v in another order: %s, %d, error %d, not %s, %d, error %d", x, flat(got), n2, e2, flat(g), n, e)
			}
		}
	}
}

// P11.4: more than is needed changes nothing either.
func TestMoreRoom(t *testing.T) {
	s := source(7)
	for range 300 {
		x := s.someTask()
		g, n, e := x.run()
		if e != api.OK {
			continue
		}
		_, _, most, _ := x.model()
		for range 3 {
			y := x.within(max(n, 1)+s.below(100), most+s.below(api.MaxNodes-most+1))
			if got, n2, e := y.run(); e != api.OK || n2 != n || flat(got) != flat(g) {
				t.Fatalf("Run of %v with more room: %s, %d, error %d, not %s, %d", y, flat(got), n2, e, flat(g), n)
			}
		}
	}
}

// What is pinned of a solution is found again without a step back, where the pins are of one version a name and nothing was dropped: a decision for each want.
func TestPinnedAgain(t *testing.T) {
	s := source(8)
	looked := 0
	for range 600 {
		x := s.someTask()
		g, before, e := x.run()
		x.pins = graph.Pins(g)
		names := map[string]int{}
		for _, p := range x.pins {
			names[p.Name]++
		}
		decisions, dropped := x.counted(g)
		if e != api.OK || len(names) < len(x.pins) || dropped {
			continue
		}
		if before > decisions {
			looked++
		}
		if got, n, e := x.run(); e != api.OK || flat(got) != flat(g) || n != decisions {
			t.Fatalf("Run of %v with the pins of its graph: %s, %d, error %d, not %s, %d", x, flat(got), n, e, flat(g), decisions)
		}
	}
	if looked < 30 {
		t.Errorf("%d looked at", looked)
	}
}

// counted is how many wants all nodes of a graph have, and whether one of them was dropped.
func (x task) counted(g api.Graph) (count int, dropped bool) {
	for i, n := range g.Nodes {
		for _, w := range x.wanted(g, i) {
			count++
			dropped = dropped || !slices.ContainsFunc(n.Edges, func(e api.Edge) bool { return e.Label == w.Name })
		}
	}
	return count, dropped
}
