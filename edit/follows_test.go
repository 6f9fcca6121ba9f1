package edit_test

import (
	"testing"

	"halyard/api"
	"halyard/edit"
	"halyard/graph"
	"halyard/image"
	"halyard/place"
	"halyard/resolve"
	"halyard/walkup"
)

// P19.1: steps are answered as the model answers them, of projects that commands came to, and of others.
func TestAsModel(t *testing.T) {
	s := source(1)
	errors, done := map[api.Errno]int{}, map[int]int{}
	visit := func(p *session, x api.Step) {
		_, a := p.asModel(x)
		if errors[a.Code]++; a.Code == api.OK {
			done[x.Op]++
		} else if a != (api.Answer{Code: a.Code}) {
			t.Fatalf("%s: %+v", told(x), a)
		}
	}
	s.walks(t, 400, visit)
	s.grownWalks(t, 400, visit)
	for _, op := range ops {
		if done[op] < 100 {
			t.Errorf("Op %d: done %d times", op, done[op])
		}
	}
	for _, e := range []api.Errno{api.ErrArg, api.ErrOp, api.ErrName, api.ErrRange, api.ErrWant, api.ErrUnsat, api.ErrBudget, api.ErrTooMany, api.ErrTooLong, api.ErrTooDeep} {
		if errors[e] < 20 {
			t.Errorf("error %d: %d times", e, errors[e])
		}
	}
	if errors[api.ErrGraph] > 0 || errors[api.ErrTree] > 0 {
		t.Error("errors that can't be:", errors)
	}
}

// P19.2: behind a command the state may be, its graph is a solution, and its tree is place's; and so it is what lookups tell (W1, W4).
func TestSound(t *testing.T) {
	s := source(2)
	done, beside := 0, 0
	visit := func(p *session, x api.Step) {
		next, a := edit.Do(p.s, p.c, x, p.l)
		if a.Code != api.OK {
			return
		}
		done++
		files, e := image.Files(next)
		if e != api.OK {
			t.Fatalf("%s of %s: %s may not be", told(x), flat(p.s), flat(next))
		}
		if back, e := image.Read(files); e != api.OK || !same(back, next) {
			t.Fatalf("%s of %s: %s is read as %s, error %d", told(x), flat(p.s), flat(next), flat(back), e)
		}
		if e := graph.Check(next.Graph, p.c, next.Manifest, !next.Pruned); e != api.OK {
			t.Fatalf("%s of %s: %s is no solution, error %d", told(x), flat(p.s), flat(next), e)
		}
		want, e := place.Run(next.Graph, packsOf(p.c, next.Graph), p.l, modelOld(p.s, x))
		if e != api.OK || !sameShape(next, api.State{Graph: next.Graph, Tree: want}) {
			t.Fatalf("%s of %s: %s is not place's tree, error %d", told(x), flat(p.s), flat(next), e)
		}
		if a != (api.Answer{Decisions: a.Decisions, Nodes: len(next.Graph.Nodes), Dirs: len(next.Tree.Dirs) - 1}) {
			t.Fatalf("%s of %s: %+v", told(x), flat(p.s), a)
		}
		beside += oneInstance(t, next)
	}
	s.walks(t, 300, visit)
	s.grownWalks(t, 300, visit)
	if done < 1500 || beside < 500 {
		t.Error("too few of a kind:", done, beside)
	}
}

// oneInstance tells a fault unless what a package needs beside it is the very directory that its dependant finds, and how often that was asked.
func oneInstance(t *testing.T, s api.State) int {
	asked := 0
	for i, d := range s.Tree.Dirs {
		for _, e := range s.Graph.Nodes[d.Node].Edges {
			p := walkup.Look(s.Tree, i, e.Label)
			for _, q := range s.Graph.Nodes[e.To].Context {
				if one, other := walkup.Look(s.Tree, i, q.Name), walkup.Look(s.Tree, p, q.Name); one < 0 || one != other {
					t.Fatalf("%s: two directories of %s", flat(s), q.Name)
				}
				asked++
			}
		}
	}
	return asked
}

// P19.3: of the state that an install came to, an install, a dedupe and an update of nothing's name leave graph and tree as they are; a prune, where nothing is wanted by Dev, too.
func TestAgain(t *testing.T) {
	s := source(3)
	installed, pruned := 0, 0
	visit := func(p *session, _ api.Step) {
		p = p.clone()
		next, a := edit.Do(p.s, p.c, install(), p.l)
		if a.Code != api.OK {
			return
		}
		installed += min(1, a.Dirs)
		p.s = next
		stays := func(x api.Step) {
			t.Helper()
			got, b := edit.Do(p.s, p.c, x, p.l)
			if b.Code != api.OK || !sameShape(got, p.s) {
				t.Fatalf("%s behind an install: %s, error %d, not %s", told(x), flat(got), b.Code, flat(p.s))
			}
			if wants := got.Pruned != (x.Op == api.StepPrune); wants || b.Nodes != a.Nodes || b.Dirs != a.Dirs {
				t.Fatalf("%s behind an install: %+v, Pruned is %v", told(x), b, got.Pruned)
			}
		}
		stays(install())
		stays(dedupe())
		stays(update(""))
		if len(p.s.Manifest.Dev) == 0 {
			stays(prune())
			pruned += min(1, a.Dirs)
		}
	}
	s.walks(t, 200, visit)
	s.grownWalks(t, 200, visit)
	if installed < 800 || pruned < 200 {
		t.Error("too few of a kind:", installed, pruned)
	}
}

// P19.3: also where a package that is pinned is not the greatest that there is, and where versions of one name stand beside one another.
func TestAgainByHand(t *testing.T) {
	p := begun(t, published("a 1.0.0; needs b *; needs p *", "b 1.0.0", "b 2.0.0", "b 3.0.0", "p 1.0.0; beside b <=2.0.0", "c 1.0.0; needs b 3.0.0", "d 1.0.0; needs b 1.0.0"))
	p.doesAll(add("a", "*", 0), add("c", "*", 0), add("d", "*", 0), install())
	p.has("an install", "a 1.0.0", "a/p 1.0.0", "b 2.0.0", "c 1.0.0", "c/b 3.0.0", "d 1.0.0", "d/b 1.0.0")
	before := p.s
	for _, x := range []api.Step{install(), dedupe(), update(""), prune()} {
		if q := p.clone().doesAll(x); !sameShape(q.s, before) {
			t.Errorf("%s: %s, not %s", told(x), flat(q.s), flat(before))
		}
	}
}

// P19.4: behind an install or a dedupe a node without a context that is the only one of its name has one directory.
func TestOnce(t *testing.T) {
	s := source(4)
	looked := 0
	visit := func(p *session, _ api.Step) {
		for _, x := range []api.Step{install(), dedupe()} {
			next, a := edit.Do(p.s, p.c, x, p.l)
			if a.Code != api.OK {
				continue
			}
			named, stand := map[string]int{}, map[int]int{}
			for _, n := range next.Graph.Nodes {
				named[n.Name]++
			}
			for _, d := range next.Tree.Dirs {
				stand[d.Node]++
			}
			for i, n := range next.Graph.Nodes {
				if i == 0 || named[n.Name] > 1 || len(n.Context) > 0 {
					continue
				}
				if looked++; stand[i] != 1 {
					t.Fatalf("%s of %s: node %d of %s stands %d times", told(x), flat(p.s), i, flat(next), stand[i])
				}
			}
		}
	}
	s.walks(t, 200, visit)
	s.grownWalks(t, 200, visit)
	if looked < 3000 {
		t.Error("too few:", looked)
	}
	// With an old tree it may stand twice.
	p := begun(t, published("a 1.0.0; needs x 1.0.0", "b 1.0.0; needs x 1.0.0", "x 1.0.0", "x 2.0.0"))
	p.doesAll(add("a", "*", 0), add("b", "*", 0), add("x", "2.0.0", 0))
	p.has("three of them", "a 1.0.0", "a/x 1.0.0", "b 1.0.0", "b/x 1.0.0", "x 2.0.0")
	p.comesTo(remove("x"), 4, "a 1.0.0", "a/x 1.0.0", "b 1.0.0", "b/x 1.0.0")
	p.clone().comesTo(dedupe(), 4, "a 1.0.0", "b 1.0.0", "x 1.0.0")
	p.clone().comesTo(install(), 4, "a 1.0.0", "b 1.0.0", "x 1.0.0")
}

// P19.1: just as many decisions, nodes, directories and bytes as there are will do; with one less it is refused.
func TestJustEnough(t *testing.T) {
	s := source(5)
	done := 0
	s.walks(t, 60, func(p *session, x api.Step) {
		l := widest
		l.Decisions = 300
		next, a := edit.Do(p.s, p.c, x, l)
		if a.Code != api.OK || a.Decisions == 0 {
			return
		}
		done++
		l.Decisions, l.Dirs = a.Decisions, max(a.Dirs, 1)
		if got, b := edit.Do(p.s, p.c, x, l); b != a || !same(got, next) {
			t.Fatalf("%s of %s in %+v: %+v, not %+v", told(x), flat(p.s), l, b, a)
		}
		q := p.within(l)
		if a.Decisions > 1 {
			q.l.Decisions--
			q.refuses(x, api.ErrBudget)
			q.l.Decisions++
		}
		if a.Dirs > 1 {
			q.l.Dirs--
			q.refuses(x, api.ErrTooDeep)
		}
	})
	if done < 200 {
		t.Error("too few:", done)
	}
}

// W2: ErrUnsat is answered only where resolve comes to no graph in whatever limits.
func TestUnsat(t *testing.T) {
	s := source(6)
	met := 0
	s.walks(t, 100, func(p *session, x api.Step) {
		if _, a := edit.Do(p.s, p.c, x, p.l); a.Code != api.ErrUnsat {
			return
		}
		met++
		m := modelManifest(p.s, x)
		if _, _, e := resolve.Run(p.c, m, !modelPruned(p.s, x), nil, widest); e != api.ErrUnsat {
			t.Fatalf("%s of %s: there is a solution, error %d", told(x), flat(p.s), e)
		}
	})
	if met < 50 {
		t.Error("too few:", met)
	}
}
