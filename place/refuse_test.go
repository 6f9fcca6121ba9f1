package place_test

import (
	"fmt"
	"math"
	"slices"
	"strings"
	"testing"

	"halyard/api"
	"halyard/span"
	"halyard/tree"
)

// P14.1, R6: limits whose Dirs or Path is no limit; the other fields are not looked at.
func TestLimitsThatMayNotBe(t *testing.T) {
	x := chapter()
	for _, n := range []int{0, -1, -256, math.MinInt, 257, 258, math.MaxInt} {
		x.within(n, 1024).fails(t, fmt.Sprintf("Dirs %d", n), api.ErrArg)
	}
	for _, n := range []int{0, -1, -1024, math.MinInt, 1025, 1026, math.MaxInt} {
		x.within(256, n).fails(t, fmt.Sprintf("Path %d", n), api.ErrArg)
	}
	x.within(0, 0).fails(t, "both", api.ErrArg)
	x.within(1024, 256).fails(t, "both the other way round", api.ErrArg)
	for _, l := range []api.Limits{{Dirs: 256, Path: 1024}, {Dirs: 4, Path: 20}, {Dirs: 256, Path: 20}, {Dirs: 4, Path: 1024}} {
		for _, n := range []int{0, 1, -1, 4097, math.MinInt, math.MaxInt} {
			x.l = l
			x.l.Decisions, x.l.Nodes = n, -n
			x.stands(t, fmt.Sprint(x.l), "a 1", "b 3", "c 2", "c/b 4")
		}
	}
	one := of("root: a 1", "a 1")
	one.within(1, 10).stands(t, "the least room", "a 1")
	one.within(1, 9).fails(t, "a path that is too long", api.ErrTooLong)
	one.within(1, 1).fails(t, "the least limits", api.ErrTooLong)
}

// noOld is old trees that may not be.
func noOld() map[string]api.Tree {
	x := chapter()
	changed := func(change func(t *api.Tree)) api.Tree {
		old := x.grown("a 1", "a/b 3", "c 2")
		change(&old)
		return old
	}
	return map[string]api.Tree{
		"no directories":        {},
		"an empty list":         {Dirs: []api.Dir{}},
		"no root":               {Dirs: x.grown("a 1").Dirs[1:]},
		"a root with a node":    changed(func(t *api.Tree) { t.Dirs[0].Node = 1 }),
		"a root with a package": changed(func(t *api.Tree) { t.Dirs[0].Pack.Name = "a" }),
		"a path twice":          changed(func(t *api.Tree) { t.Dirs = append(t.Dirs, t.Dirs[1]) }),
		"no directory above":    changed(func(t *api.Tree) { t.Dirs = slices.Delete(t.Dirs, 1, 2) }),
		"one above behind it":   changed(func(t *api.Tree) { t.Dirs[1], t.Dirs[2] = t.Dirs[2], t.Dirs[1] }),
		"another package":       changed(func(t *api.Tree) { t.Dirs[3].Pack.Name = "b" }),
		"a version too great":   changed(func(t *api.Tree) { t.Dirs[3].Pack.Version.Minor = 1000 }),
		"a node of 0":           changed(func(t *api.Tree) { t.Dirs[2].Node = 0 }),
		"a node below 0":        changed(func(t *api.Tree) { t.Dirs[2].Node = -1 }),
		"a name that is none":   changed(func(t *api.Tree) { t.Dirs[3].Path, t.Dirs[3].Pack.Name = []string{"C"}, "C" }),
		"too many":              wide(257),
		"far too many":          wide(5000),
	}
}

// wide is a tree of so many directories beside the root.
func wide(count int) api.Tree {
	t := api.Tree{Dirs: []api.Dir{{}}}
	for i := range count {
		name := fmt.Sprintf("n%d", i)
		t.Dirs = append(t.Dirs, api.Dir{Path: []string{name}, Pack: api.Package{Name: name}, Node: 1})
	}
	return t
}

// P14.1: an old tree that may not be.
func TestOldThatMayNotBe(t *testing.T) {
	x := chapter()
	for what, old := range noOld() {
		if tree.Check(old) != api.ErrTree {
			t.Fatal(what)
		}
		x.behind(old).fails(t, what, api.ErrTree)
		of("root").behind(old).fails(t, what+", nothing to place", api.ErrTree)
	}
	x.behind(wide(256)).stands(t, "as many as may be", "a 1", "b 3", "c 2", "c/b 4")
}

// noGraphs is tasks of graphs that can't be placed, each for one reason.
func noGraphs() map[string]task {
	changed := func(change func(x *task)) task {
		return of("root: a 1, b 2, p 3", "a 1: b 2, p 3", "b 1", "p 1 with a 1, b 1: a 1, b 2", "b 2", "p 1 with b 1: b 2").changed(change)
	}
	l := map[string]task{
		"no nodes":                         {l: api.Limits{Dirs: 256, Path: 1024}},
		"no nodes, but packs":              changed(func(x *task) { x.g.Nodes = nil }),
		"no packs":                         changed(func(x *task) { x.packs = nil }),
		"one pack less":                    changed(func(x *task) { x.packs = x.packs[:len(x.packs)-1] }),
		"one pack more":                    changed(func(x *task) { x.packs = append(x.packs, x.packs[1]) }),
		"a zero pack more":                 changed(func(x *task) { x.packs = append(x.packs, api.Package{}) }),
		"packs without that of the root":   changed(func(x *task) { x.packs = append(x.packs[1:], x.packs[1]) }),
		"one node more than may be":        around(row(129)),
		"a root with a name":               changed(func(x *task) { x.g.Nodes[0].Name = "a" }),
		"a root with a version":            changed(func(x *task) { x.g.Nodes[0].Version.Patch = 1 }),
		"a root with a context":            changed(func(x *task) { x.g.Nodes[0].Context = pins("a 1") }),
		"a root with a pack's name":        changed(func(x *task) { x.packs[0].Name = "a" }),
		"a root with a pack's version":     changed(func(x *task) { x.packs[0].Version.Major = 1 }),
		"a root that is a package":         changed(func(x *task) { x.g.Nodes[0].Name, x.packs[0].Name = "z", "z" }),
		"a pack of another name":           changed(func(x *task) { x.packs[1].Name = "b" }),
		"a pack of another major version":  changed(func(x *task) { x.packs[1].Version.Major++ }),
		"a pack of another minor version":  changed(func(x *task) { x.packs[1].Version.Minor++ }),
		"a pack of another patch":          changed(func(x *task) { x.packs[1].Version.Patch++ }),
		"a pack that is none":              changed(func(x *task) { x.packs[1] = api.Package{} }),
		"a pack of another name, the last": changed(func(x *task) { x.packs[5].Name = "q" }),
		"two packs changed places":         changed(func(x *task) { x.packs[2], x.packs[4] = x.packs[4], x.packs[2] }),
		"a second root":                    changed(func(x *task) { x.g.Nodes, x.packs = append(x.g.Nodes, api.Node{}), append(x.packs, api.Package{}) }),
		"a context that falls":             changed(func(x *task) { x.g.Nodes[3].Context = pins("b 1, a 1") }),
		"a context with a name twice":      changed(func(x *task) { x.g.Nodes[3].Context = pins("a 1, a 1, b 1") }),
		"a context twice":                  changed(func(x *task) { x.g.Nodes[3].Context = pins("a 1, b 1, a 1, b 1") }),
		"a context that falls, the last":   changed(func(x *task) { x.g.Nodes[5].Context = pins("b 1, b 1") }),
		"edges that fall":                  changed(func(x *task) { x.g.Nodes[0].Edges = edges("b 2, a 1, p 3") }),
		"edges that fall at the end":       changed(func(x *task) { x.g.Nodes[0].Edges = edges("a 1, p 3, b 2") }),
		"an edge twice":                    changed(func(x *task) { x.g.Nodes[0].Edges = edges("a 1, b 2, b 2, p 3") }),
		"a label twice":                    changed(func(x *task) { x.g.Nodes[0].Edges = edges("a 1, b 2, b 4, p 3") }),
		"edges that fall, of another node": changed(func(x *task) { x.g.Nodes[1].Edges = edges("p 3, b 2") }),
		"edges that fall, of the last one": changed(func(x *task) { x.g.Nodes[5].Edges = edges("b 2, a 1") }),
		"a name without an edge":           changed(func(x *task) { x.g.Nodes[3].Edges = edges("b 2") }),
		"a last name without an edge":      changed(func(x *task) { x.g.Nodes[3].Edges = edges("a 1") }),
		"a context without edges":          changed(func(x *task) { x.g.Nodes[3].Edges = nil }),
		"a name with an edge to a version": changed(func(x *task) { x.g.Nodes[3].Edges = edges("a 1, b 4") }),
		"a name of no node":                changed(func(x *task) { x.g.Nodes[3].Context = pins("a 1, b 1, c 1") }),
		"a name that may not be":           changed(func(x *task) { x.g.Nodes[3].Context = append([]api.Pin{{}}, x.g.Nodes[3].Context...) }),
		"an edge to the root by its name":  changed(func(x *task) { x.g.Nodes[2].Edges = []api.Edge{{}} }),
		"the root beside it":               changed(func(x *task) { x.g.Nodes[2].Context, x.g.Nodes[2].Edges = []api.Pin{{}}, []api.Edge{{}} }),
		"a context that no edge leads to":  changed(func(x *task) { x.g.Nodes[5].Context = pins("b 2") }),
	}
	for what, to := range map[string]int{"place 0": 0, "place -1": -1, "the least place": math.MinInt, "one past the end": 6, "far past the end": math.MaxInt, "a node of another name": 2} {
		l["an edge to "+what] = changed(func(x *task) { x.g.Nodes[0].Edges[0].To = to })
		l["an edge of the last node to "+what] = changed(func(x *task) { x.g.Nodes[5].Edges = []api.Edge{{Label: "a", To: to}, {Label: "b", To: 2}} })
	}
	for _, name := range noNames() {
		l[fmt.Sprintf("a label %.20q", name)] = changed(func(x *task) { x.g.Nodes[2].Edges = []api.Edge{{Label: name, To: 1}} })
		l[fmt.Sprintf("a node and its pack named %.20q", name)] = changed(func(x *task) {
			x.g.Nodes, x.packs = append(x.g.Nodes, api.Node{Name: name}), append(x.packs, api.Package{Name: name})
		})
		l[fmt.Sprintf("a node named %.20q with an edge to it", name)] = changed(func(x *task) {
			x.g.Nodes, x.packs = append(x.g.Nodes, api.Node{Name: name}), append(x.packs, api.Package{Name: name})
			x.g.Nodes[2].Edges = []api.Edge{{Label: name, To: 6}}
		})
	}
	for _, v := range []api.Version{version(-1, 0, 0), version(1000, 0, 0), version(1, -1, 0), version(1, 1000, 0), version(1, 0, -1), version(1, 0, 1000), version(math.MinInt, math.MaxInt, 0)} {
		l[fmt.Sprint("a node and its pack of version ", v)] = changed(func(x *task) { x.g.Nodes[4].Version, x.packs[4].Version = v, v })
	}
	for i, what := range []string{"Deps", "Peers", "Optional"} {
		a := api.Dep{Name: "a", Range: span.All()}
		for how, list := range map[string][]api.Dep{"a range of none": {{Name: "a"}}, "a name twice": {a, a}, "a name that is none": {{Name: "A", Range: span.All()}}, "17": many(17)} {
			l[fmt.Sprintf("a pack with %s in %s", how, what)] = changed(func(x *task) { *listsOf(&x.packs[4])[i] = list })
		}
		l["a root with a pack's "+what] = changed(func(x *task) { *listsOf(&x.packs[0])[i] = []api.Dep{a} })
		l["a pack with a name in two lists, not in "+what] = changed(func(x *task) {
			*listsOf(&x.packs[4])[(i+1)%3], *listsOf(&x.packs[4])[(i+2)%3] = []api.Dep{a}, []api.Dep{a}
		})
	}
	return l
}

// many is so many Deps that rise.
func many(count int) []api.Dep {
	var l []api.Dep
	for i := range count {
		l = append(l, api.Dep{Name: fmt.Sprintf("n%03d", i), Range: span.All()})
	}
	return l
}

// row is a graph of so many nodes, the root too, each of which leads to the next one.
func row(count int) api.Graph {
	g := drawn("root")
	for i := 1; i < count; i++ {
		name := fmt.Sprintf("n%d", i)
		g.Nodes[i-1].Edges = []api.Edge{{Label: name, To: i}}
		g.Nodes = append(g.Nodes, api.Node{Name: name, Version: version(1, 0, 0)})
	}
	return g
}

// noNames is names that may not be.
func noNames() []string {
	return []string{"", "A", "aB", "1a", "-a", "a_b", "a.b", "a/b", "/", "a b", " a", "a\n", "\x00", "\xff", "\u00e9", "..", "abcdefghijklmnopq", strings.Repeat("a", 5000)}
}

// P14.1: graphs that can't be placed; the same graph without the fault can be.
func TestGraphsThatCannotBePlaced(t *testing.T) {
	of("root: a 1, b 2, p 3", "a 1: b 2, p 3", "b 1", "p 1 with a 1, b 1: a 1, b 2", "b 2", "p 1 with b 1: b 2").stands(t, "without a fault", "a 1", "a/p 3", "b 2", "p 3")
	for what, x := range noGraphs() {
		x.fails(t, what, api.ErrGraph)
	}
	if got, e := around(row(128)).run(); e != api.OK || len(got.Dirs) != 128 {
		t.Errorf("as many nodes as may be: %d directories, error %d", len(got.Dirs), e)
	}
}

// P14.1: what is not asked of a graph: that two nodes differ, that all are reached, that packages want what edges lead to.
func TestWhatIsNotAsked(t *testing.T) {
	x := of("root: a 1", "a 1: c 3", "a 1: c 3", "c 1", "d 1 with c 1: c 3")
	for i := range x.packs {
		if i > 0 {
			x.packs[i] = api.Package{Name: x.g.Nodes[i].Name, Version: x.g.Nodes[i].Version, Deps: many(16)}
		}
	}
	x.stands(t, "packages that want something else", "a 1", "c 3")
	// The root's package may have lists that are empty, and not nil.
	x.packs[0] = api.Package{Deps: []api.Dep{}, Peers: []api.Dep{}, Optional: []api.Dep{}}
	x.g.Nodes[0].Context = []api.Pin{}
	x.stands(t, "empty lists", "a 1", "c 3")
	if got, _ := x.run(); len(got.Dirs) == 0 || got.Dirs[0].Pack.Deps != nil {
		t.Error("the root's package is not the zero one")
	}
}

// P14.1, R2: which error comes first, where several would.
func TestErrorsInOrder(t *testing.T) {
	old := api.Tree{}
	for what, x := range noGraphs() {
		x.old = &old
		x.fails(t, what+", with an old tree that may not be", api.ErrTree)
		x.within(0, 1024).fails(t, what+", with no Dirs", api.ErrArg)
		x.within(256, 1025).fails(t, what+", with too great a Path", api.ErrArg)
		x.old = nil
		x.within(257, 1024).fails(t, what+", with too many Dirs, without an old tree", api.ErrArg)
		x.within(1, 1).fails(t, what+", in the least room", api.ErrGraph)
	}
	chapter().behind(old).within(1, 1).fails(t, "an old tree that may not be, in the least room", api.ErrTree)
	// Both limits are passed by one directory.
	two := of("root: a 1, bb 2", "a 1", "bb 1")
	two.within(1, 10).fails(t, "too long ahead of too many", api.ErrTooLong)
	two.within(1, 11).fails(t, "too many", api.ErrTooDeep)
	two.within(2, 10).fails(t, "too long", api.ErrTooLong)
	two.within(2, 11).stands(t, "neither", "a 1", "bb 2")
	// A directory that is placed earlier has no room: its error comes first.
	three := of("root: a 1, b 2, cc 3", "a 1", "b 1", "cc 1")
	three.within(1, 10).fails(t, "too many ahead of a longer one", api.ErrTooDeep)
	// What the context lacks is told when its turn comes.
	x := of("root: a 1, p 2", "a 1", "p 1 with z 1: z 3", "z 1")
	x.within(1, 1024).fails(t, "no room for p ahead of what it lacks", api.ErrTooDeep)
	x.within(2, 1024).fails(t, "what p lacks", api.ErrGraph)
	x = of("root: p 1, x 4", "p 1 with z 1: z 2", "z 1", "y 1", "x 1: y 3")
	x.within(2, 1024).fails(t, "no room for y, which is placed ahead of p's turn", api.ErrTooDeep)
	x.within(3, 1024).fails(t, "what p lacks behind y", api.ErrGraph)
}

// deepRow is a graph that is placed as a row of so many directories, each in the one ahead of it, whose names have that many bytes.
func deepRow(count, bytes int) api.Graph {
	name := "n" + strings.Repeat("x", bytes-1)
	g := drawn("root")
	for i := range count {
		g.Nodes[i].Edges = []api.Edge{{Label: name, To: i + 1}}
		g.Nodes = append(g.Nodes, api.Node{Name: name, Version: version(i, 0, 0)})
	}
	return g
}

// P14.1, P14.6: a path of just as many bytes as may be, and of one byte more.
func TestPathLimit(t *testing.T) {
	for _, q := range []struct{ count, bytes int }{{1, 1}, {1, 16}, {2, 3}, {5, 7}, {40, 16}, {64, 7}, {102, 1}} {
		x := around(deepRow(q.count, q.bytes))
		length := q.count * (len("/modules/") + q.bytes)
		got, e := x.within(256, length).run()
		if e != api.OK || len(got.Dirs) != q.count+1 || len(tree.Text(got.Dirs[q.count].Path)) != length {
			t.Errorf("%v with Path %d: %s, error %d", q, length, short(flat(got)), e)
		}
		x.within(256, length-1).fails(t, fmt.Sprintf("%v with Path %d", q, length-1), api.ErrTooLong)
		x.within(q.count, length).asModel(t, "just as many directories")
	}
	around(deepRow(103, 1)).fails(t, "1030 bytes", api.ErrTooLong)
	around(deepRow(64, 7)).within(256, 1024).asModel(t, "1024 bytes")
	around(deepRow(64, 7)).within(256, 1023).fails(t, "1024 bytes with Path 1023", api.ErrTooLong)
	// A path that is taken elsewhere is not too long: x stands at the root, though what needs it stands deep.
	g := deepRow(3, 16)
	g.Nodes[3].Edges = []api.Edge{{Label: "x", To: 4}}
	g.Nodes = append(g.Nodes, api.Node{Name: "x"})
	n := "n" + strings.Repeat("x", 15)
	around(g).within(4, 75).stands(t, "x at the root", n+" 1", n+"/"+n+" 2", n+"/"+n+"/"+n+" 3", "x 4")
}

// P14.1, P14.6: just as many directories as may be, and one more.
func TestDirsLimit(t *testing.T) {
	for _, count := range []int{1, 2, 3, 50, 127} {
		x := around(row(count + 1))
		if got, e := x.within(count, 1024).run(); e != api.OK || len(got.Dirs) != count+1 {
			t.Errorf("%d directories: %d, error %d", count, len(got.Dirs), e)
		}
		if count > 1 {
			x.within(count-1, 1024).fails(t, "one directory too many", api.ErrTooDeep)
		}
	}
	// 256, of fewer nodes: 85 at the root, with x and y there, and in each of these an x, in 84 of them a y.
	for more, want := range map[int]api.Errno{0: api.OK, 1: api.ErrTooDeep} {
		x := around(crowded(85, 84+more))
		got, e := x.run()
		if e != want || e == api.OK && len(got.Dirs) != 257 {
			t.Errorf("256 directories and %d: %d, error %d", more, len(got.Dirs), e)
		}
	}
}

// crowded is a graph of x 1 and y 1 at the root, and of so many nodes that have an x 2 in them each; some of these have a y 2, too.
func crowded(count, some int) api.Graph {
	g := drawn("root: x 1, y 2", "x 1", "y 1", "x 2", "y 2")
	for i := range count {
		n := api.Node{Name: fmt.Sprintf("d%02d", i), Version: version(1, 0, 0)}
		n.Edges = edges("x 3")
		if i < some {
			n.Edges = edges("x 3, y 4")
		}
		g.Nodes = append(g.Nodes, n)
	}
	var l []api.Edge
	for i := range count {
		l = append(l, api.Edge{Label: g.Nodes[5+i].Name, To: 5 + i})
	}
	g.Nodes[0].Edges = append(l, g.Nodes[0].Edges...)
	return g
}

// P14.1: the answer's directories stand by the texts of their paths, byte by byte, in whichever order they were placed.
func TestOrder(t *testing.T) {
	// `-` stands ahead of `/`, digits and letters behind it.
	x := of("root: a 1, a- 2, a0 3, aa 4, b 5", "a 1: b 6", "a- 1: b 6", "a0 1: b 6", "aa 1: b 6", "b 1", "b 2")
	x.stands(t, "names that begin alike", "a 1", "a- 2", "a-/b 6", "a/b 6", "a0 3", "a0/b 6", "aa 4", "aa/b 6", "b 5")
	x = of("root: z 1", "z 1: y 2", "y 1: x 3", "x 1: w 4", "w 1")
	x.stands(t, "placed the other way round", "w 4", "x 3", "y 2", "z 1")
	// A directory stands ahead of what is in it, and behind all that is in those ahead of it.
	x = of("root: m 1, n 2, p 3", "m 1: n 4, p 5", "n 1", "p 1: m 6", "n 2", "p 2: m 6", "m 2")
	x.asModel(t, "several levels")
	got, _ := x.run()
	for i := range got.Dirs {
		if i > 0 && tree.Text(got.Dirs[i-1].Path) >= tree.Text(got.Dirs[i].Path) {
			t.Errorf("%s stands ahead of %s", tree.Text(got.Dirs[i-1].Path), tree.Text(got.Dirs[i].Path))
		}
	}
}

// P14.1: Node is the node's number, Pack its pack, with all that it has.
func TestNodesAndPacks(t *testing.T) {
	x := of("root: a 1, b 2", "a 1: c 3", "b 1: c 4", "c 1", "c 2")
	for i := range x.packs[1:] {
		p := &x.packs[i+1]
		p.Deps, p.Peers, p.Optional = many(i + 2)[i:], []api.Dep{{Name: "q", Range: []api.Span{{Lo: version(i, 0, 0), Hi: version(i, 0, 1)}}}}, []api.Dep{{Name: "r", Range: span.All()}}
	}
	x.stands(t, "packages that have all", "a 1", "b 2", "b/c 4", "c 3")
}
