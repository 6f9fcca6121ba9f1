package place_test

import (
	"testing"

	"halyard/api"
	"halyard/pack"
	"halyard/tree"
	"halyard/walkup"
)

// everyTask tells each of many tasks: solutions without an old tree, with that of another solution, with one out of their own, and with any.
func everyTask(seed source, count int, do func(what string, x task)) {
	s := &seed
	l := s.solutions(count)
	for i, x := range l {
		do("a solution", x)
		if old, e := l[i^1].run(); e == api.OK {
			do("a solution behind another one", x.behind(old))
		}
		do("a solution behind what was moved", x.behind(s.moved(x)))
		do("a solution behind anything", x.behind(s.someOld(x)))
	}
}

// P14.1: solutions are placed as the model does, in any limits.
func TestSolutionsAsModel(t *testing.T) {
	s := source(1)
	errors, met := map[api.Errno]int{}, map[string]int{}
	everyTask(2, 500, func(what string, x task) {
		errors[x.asModel(t, what)]++
		x.model(met)
		x.l = s.someLimits(x)
		errors[x.asModel(t, what+" in any limits")]++
	})
	if errors[api.OK] < 1500 || errors[api.ErrTooLong] < 200 || errors[api.ErrTooDeep] < 200 || errors[api.ErrGraph] > 0 {
		t.Error("too few of a kind:", errors)
	}
	for _, what := range []string{"a spot that an edge forbids", "several spots", "liked lower", "between", "beside", "found, and sees the same", "found, and sees other ones", "found, with a name that is not settled"} {
		if met[what] < 50 {
			t.Errorf("%s: %d times", what, met[what])
		}
	}
}

// P14.1: graphs that are no solutions, or can't be placed at all, are answered as the model does.
func TestGraphsAsModel(t *testing.T) {
	s := source(3)
	errors := map[api.Errno]int{}
	for range 6000 {
		x := around(s.someGraph()).within(60, 300)
		if s.below(2) == 0 {
			x = x.behind(s.someOld(x))
		}
		if !x.placeable() {
			t.Fatal("it can't be placed:", x)
		}
		errors[x.asModel(t, "any graph")]++
		y := x
		y.l = s.someLimits(x)
		errors[y.asModel(t, "any graph in any limits")]++
		for range 3 {
			x = s.spoilt(x)
			if len(x.packs) < len(x.g.Nodes) {
				errors[x.asModel(t, "fewer packs")]++
				break
			}
			errors[x.asModel(t, "a spoilt graph")]++
		}
	}
	if errors[api.OK] < 2000 || errors[api.ErrGraph] < 2000 || errors[api.ErrTooLong] < 200 || errors[api.ErrTooDeep] < 200 {
		t.Error("too few of a kind:", errors)
	}
}

// P14.2, W1: walkup.Map of the tree and the graph tells of each directory its Node; the tree may be.
func TestItIsTheGraph(t *testing.T) {
	placed, twice := 0, 0
	everyTask(4, 600, func(what string, x task) {
		got, e := x.run()
		if e != api.OK {
			return
		}
		if tree.Check(got) != api.OK {
			t.Fatalf("%s: %s: %s may not be", what, x, flat(got))
		}
		nodes, e := walkup.Map(got, x.g)
		if e != api.OK || len(nodes) != len(got.Dirs) {
			t.Fatalf("%s: %s: %s: Map tells %v, error %d", what, x, flat(got), nodes, e)
		}
		times := map[int]int{}
		for i, d := range got.Dirs {
			if nodes[i] != d.Node {
				t.Fatalf("%s: %s: %s: Map tells %v", what, x, flat(got), nodes)
			}
			if times[d.Node]++; times[d.Node] == 2 {
				twice++
			}
			if i > 0 && !pack.Same(d.Pack, x.packs[d.Node]) {
				t.Fatalf("%s: %s: %s has another package", what, x, tree.Text(d.Path))
			}
		}
		if len(times) != len(x.g.Nodes) {
			t.Fatalf("%s: %s: %s has not all nodes", what, x, flat(got))
		}
		placed++
	})
	if placed < 1500 || twice < 1000 {
		t.Error("too few of a kind:", placed, twice)
	}
}

// P14.3, W4: what a package needs beside it is the very directory that its dependant finds.
func TestOneInstance(t *testing.T) {
	looked, deep := 0, 0
	everyTask(5, 600, func(what string, x task) {
		got, e := x.run()
		for i, d := range got.Dirs {
			if e != api.OK {
				return
			}
			for _, edge := range x.g.Nodes[d.Node].Edges {
				p := walkup.Look(got, i, edge.Label)
				for _, q := range x.g.Nodes[edge.To].Context {
					one, other := walkup.Look(got, i, q.Name), walkup.Look(got, p, q.Name)
					if one < 0 || one != other {
						t.Fatalf("%s: %s: %s: %s from %s is %d, from %s %d", what, x, flat(got), q.Name, tree.Text(d.Path), one, tree.Text(got.Dirs[p].Path), other)
					}
					if looked++; len(got.Dirs[one].Path) > 1 {
						deep++
					}
				}
			}
		}
	})
	if looked < 10000 || deep < 1000 {
		t.Error("too few of a kind:", looked, deep)
	}
}

// P14.4, W5: without an old tree, a node without a context that is the only one of its name stands in the root's modules, and nowhere else.
func TestOnce(t *testing.T) {
	looked := 0
	s := source(6)
	for _, x := range s.solutions(1000) {
		got, e := x.run()
		if e != api.OK {
			continue
		}
		named, stand := map[string]int{}, map[int]int{}
		for _, n := range x.g.Nodes {
			named[n.Name]++
		}
		for _, d := range got.Dirs {
			stand[d.Node]++
		}
		for i, n := range x.g.Nodes {
			if i == 0 || named[n.Name] > 1 || len(n.Context) > 0 {
				continue
			}
			looked++
			if at := tree.Find(got, []string{n.Name}); at < 0 || got.Dirs[at].Node != i || stand[i] != 1 {
				t.Fatalf("%s: %s: node %d stands %d times", x, flat(got), i, stand[i])
			}
		}
	}
	if looked < 1000 {
		t.Error("too few:", looked)
	}
	of("root: a 1", "a 1: b 2", "b 1: c 3", "c 1: d 4", "d 1: a 1").stands(t, "a ring", "a 1", "b 2", "c 3", "d 4")
	// With an old tree it may stand lower, and more than once.
	of("root: a 1, b 2", "a 1: x 3", "b 1: x 3", "x 1").liking("a 1", "a/x 3", "b 2", "b/x 3").stands(t, "with an old tree", "a 1", "a/x 3", "b 2", "b/x 3")
	of("root: a 1, b 2", "a 1: x 3", "b 1: x 3", "x 1").stands(t, "without one", "a 1", "b 2", "x 3")
}

// P14.5: what is placed without an old tree is placed the same when that is the old one; any graph.
func TestAgain(t *testing.T) {
	s := source(7)
	placed := 0
	for _, x := range s.solutions(1000) {
		placed += x.again(t)
	}
	for range 3000 {
		placed += around(s.someGraph()).again(t)
	}
	if placed < 2000 {
		t.Error("too few:", placed)
	}
}

// again tells a fault unless a task comes to the same behind its own tree, and whether it came to one.
func (x task) again(t *testing.T) int {
	t.Helper()
	x.old = nil
	first, e := x.run()
	if e != api.OK {
		return 0
	}
	second, e := x.behind(first).run()
	if e != api.OK || flat(second) != flat(first) {
		t.Fatalf("%s: %s, then %s, error %d", x, flat(first), flat(second), e)
	}
	return 1
}

// P14.6: no path is longer, and there are no more directories, than the limits say; and with just as much room as is needed the answer is the same.
func TestBounds(t *testing.T) {
	s := source(8)
	placed, refused := 0, 0
	everyTask(9, 600, func(what string, x task) {
		whole, errno := x.run()
		for range 3 {
			y := x
			y.l = s.someLimits(x)
			got, e := y.run()
			if e != api.OK {
				refused++
				continue
			}
			placed++
			dirs, path := room(got)
			if dirs > y.l.Dirs || path > y.l.Path {
				t.Fatalf("%s: %s: %s", what, y, flat(got))
			}
		}
		if dirs, path := room(whole); errno == api.OK && dirs > 0 {
			if got, e := x.within(dirs, path).run(); e != api.OK || flat(got) != flat(whole) {
				t.Fatalf("%s: %s with just enough room: %s, error %d", what, x, flat(got), e)
			}
			if dirs > 1 {
				x.within(dirs-1, path).fails(t, "one directory less", api.ErrTooDeep)
			}
			x.within(dirs, path-1).fails(t, "one byte less", api.ErrTooLong)
		}
	})
	if placed < 1000 || refused < 1000 {
		t.Error("too few of a kind:", placed, refused)
	}
}

// room is how many directories a tree has beside the root, and how many bytes the longest of their paths has.
func room(t api.Tree) (dirs, path int) {
	for _, d := range t.Dirs {
		path = max(path, len(tree.Text(d.Path)))
	}
	return len(t.Dirs) - 1, path
}
