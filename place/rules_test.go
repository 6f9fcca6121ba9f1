package place_test

import (
	"fmt"
	"slices"
	"strings"
	"testing"
	"unsafe"

	"halyard/api"
	"halyard/place"
)

// R1: every call ends and none panics, at all arguments, and answers as the model does.
func TestEveryCallEnds(t *testing.T) {
	s := source(10)
	errors := map[api.Errno]int{}
	for range 20000 {
		errors[s.anyTask().asModel(t, "anything")]++
	}
	for _, e := range []api.Errno{api.ErrArg, api.ErrTree, api.ErrGraph} {
		if errors[e] < 1000 {
			t.Errorf("error %d: %d times", e, errors[e])
		}
	}
	task{}.fails(t, "nothing at all", api.ErrArg)
	if got, e := place.Run(api.Graph{}, nil, api.Limits{Dirs: 1, Path: 1}, nil); e != api.ErrGraph || len(got.Dirs) != 0 {
		t.Error("no graph:", flat(got), e)
	}
}

// R1: great things are told soon enough.
func TestGreatThings(t *testing.T) {
	const great = 1 << 18
	x := around(row(10))
	y := x.clone()
	y.g.Nodes = slices.Repeat(y.g.Nodes, great/10)
	y.packs = slices.Repeat(y.packs, great/10)
	refuse := func(what string, y task, want api.Errno) {
		t.Helper()
		if got, e := y.run(); e != want || len(got.Dirs) != 0 {
			t.Errorf("%s: %d directories, error %d", what, len(got.Dirs), e)
		}
	}
	refuse("many nodes", y, api.ErrGraph)
	y.g = x.g
	refuse("many packs", y, api.ErrGraph)
	var rising []api.Edge
	var context []api.Pin
	for i := range great {
		name := fmt.Sprintf("n%07d", i)
		rising, context = append(rising, api.Edge{Label: name, To: 1}), append(context, api.Pin{Name: name})
	}
	refuse("many edges", x.changed(func(x *task) { x.g.Nodes[3].Edges = rising }), api.ErrGraph)
	refuse("many edges of one label", x.changed(func(x *task) { x.g.Nodes[9].Edges = slices.Repeat(x.g.Nodes[8].Edges, great) }), api.ErrGraph)
	refuse("a great context", x.changed(func(x *task) { x.g.Nodes[3].Context = context }), api.ErrGraph)
	refuse("a great pack", x.changed(func(x *task) { x.packs[3].Deps = many(great) }), api.ErrGraph)
	long := strings.Repeat("a", 1<<24)
	refuse("a great name", x.changed(func(x *task) { x.g.Nodes[3].Name, x.packs[3].Name = long, long }), api.ErrGraph)
	refuse("a great old tree", x.behind(wide(great)), api.ErrTree)
}

// besides is a graph of nodes that need all of those without a context beside them, and of versions of x, each in the one ahead of it, that need all of these: many lookups, from deep down.
func besides(alone, beside, row int) api.Graph {
	g := drawn("root")
	var all, led []api.Edge
	var context []api.Pin
	for i := range alone {
		n := api.Node{Name: fmt.Sprintf("q%02d", i), Version: version(1, 0, 0)}
		g.Nodes, context = append(g.Nodes, n), append(context, api.Pin{Name: n.Name, Version: n.Version})
		led = append(led, api.Edge{Label: n.Name, To: 1 + i})
	}
	for i := range beside {
		g.Nodes = append(g.Nodes, api.Node{Name: fmt.Sprintf("p%02d", i), Version: version(1, 0, 0), Context: context, Edges: led})
		all = append(all, api.Edge{Label: g.Nodes[1+alone+i].Name, To: 1 + alone + i})
	}
	all = append(all, led...)
	first := len(g.Nodes)
	for i := range row {
		to := append(slices.Clone(all), api.Edge{Label: "x", To: first + i + 1})
		g.Nodes = append(g.Nodes, api.Node{Name: "x", Version: version(i, 0, 0), Edges: to[:len(all)+min(1, row-1-i)]})
	}
	g.Nodes[0].Edges = append(slices.Clone(all), api.Edge{Label: "x", To: first})
	return g
}

// R1: graphs as great as may be are placed soon enough.
func TestFull(t *testing.T) {
	for _, q := range []struct{ alone, beside, row int }{{42, 42, 43}, {13, 13, 101}, {60, 60, 7}} {
		x := around(besides(q.alone, q.beside, q.row))
		got, e := x.run()
		if e != api.OK || len(x.g.Nodes) > api.MaxNodes || len(got.Dirs) != len(x.g.Nodes) {
			t.Errorf("%v: %d nodes: %d directories, error %d", q, len(x.g.Nodes), len(got.Dirs), e)
		}
		again, e := x.behind(got).run()
		if e != api.OK || flat(again) != flat(got) {
			t.Errorf("%v behind itself: %d directories, error %d", q, len(again.Dirs), e)
		}
		// The last version leads back to the first one, which stands at the root, but is not found there.
		x.g.Nodes[len(x.g.Nodes)-1].Edges = append(x.g.Nodes[len(x.g.Nodes)-1].Edges, api.Edge{Label: "x", To: 1 + q.alone + q.beside})
		if got, e := x.run(); e != api.ErrTooLong || len(got.Dirs) != 0 {
			t.Errorf("%v round: %d directories, error %d", q, len(got.Dirs), e)
		}
	}
}

// inRoom is a list with marks in its spare room.
func inRoom[T any](l []T, mark T) []T { return slices.Concat(l, []T{mark, mark, mark})[:len(l)] }

// roomyPack is a package with marks in the spare room of its lists, at both depths.
func roomyPack(p api.Package) api.Package {
	for _, l := range listsOf(&p) {
		*l = inRoom(*l, api.Dep{Name: "mark"})
		for i, d := range *l {
			(*l)[i].Range = inRoom(d.Range, api.Span{Lo: version(9, 9, 9)})
		}
	}
	return p
}

// roomy is a task with marks in the spare room of its lists, at every depth.
func (x task) roomy() task {
	x.g.Nodes = inRoom(x.g.Nodes, api.Node{Name: "mark"})
	for i, n := range x.g.Nodes {
		x.g.Nodes[i].Context, x.g.Nodes[i].Edges = inRoom(n.Context, api.Pin{Name: "mark"}), inRoom(n.Edges, api.Edge{Label: "mark", To: 7})
	}
	x.packs = inRoom(x.packs, api.Package{Name: "mark"})
	for i, p := range x.packs {
		x.packs[i] = roomyPack(p)
	}
	if x.old != nil {
		x = x.behind(roomyTree(*x.old))
	}
	return x
}

func roomyTree(t api.Tree) api.Tree {
	room := api.Tree{Dirs: inRoom(t.Dirs, api.Dir{Node: 77})}
	for i, d := range room.Dirs {
		room.Dirs[i].Path, room.Dirs[i].Pack = inRoom(d.Path, "mark"), roomyPack(d.Pack)
	}
	return room
}

// wholePack is a package and its spare room, at every depth, as a text.
func wholePack(p api.Package) string {
	s := fmt.Sprint(p.Name, p.Version)
	for _, l := range listsOf(&p) {
		for _, d := range (*l)[:cap(*l)] {
			s += fmt.Sprint(d.Name, d.Range[:cap(d.Range)])
		}
	}
	return s
}

// whole is a task and its spare room, at every depth, as a text.
func (x task) whole() string {
	s := fmt.Sprint(x.l)
	for _, n := range x.g.Nodes[:cap(x.g.Nodes)] {
		s += fmt.Sprint(n.Name, n.Version, n.Context[:cap(n.Context)], n.Edges[:cap(n.Edges)])
	}
	for _, p := range x.packs[:cap(x.packs)] {
		s += wholePack(p)
	}
	if x.old != nil {
		s += wholeTree(*x.old)
	}
	return s
}

func wholeTree(t api.Tree) string {
	s := ""
	for _, d := range t.Dirs[:cap(t.Dirs)] {
		s += fmt.Sprintf("%q %d ", d.Path[:cap(d.Path)], d.Node) + wholePack(d.Pack)
	}
	return s
}

// spoil writes over a list and its spare room.
func spoil[T any](l []T, with T) {
	l = l[:cap(l)]
	for i := range l {
		l[i] = with
	}
}

// spoilTree writes over all lists of a tree, and their spare room, the deepest first.
func spoilTree(t api.Tree) {
	for _, d := range t.Dirs[:cap(t.Dirs)] {
		spoil(d.Path, "spoilt")
		for _, l := range listsOf(&d.Pack) {
			for _, d := range (*l)[:cap(*l)] {
				spoil(d.Range, api.Span{Lo: version(8, 8, 8)})
			}
			spoil(*l, api.Dep{Name: "spoilt"})
		}
	}
	spoil(t.Dirs, api.Dir{Node: -99})
}

// mixed is tasks of all kinds.
func (s *source) mixed(count int) []task {
	var l []task
	for _, x := range s.solutions(count) {
		l = append(l, x, x.behind(s.moved(x)), s.spoilt(x), s.anyTask())
		x.l = s.someLimits(x)
		y := around(s.someGraph())
		l = append(l, x, y, y.behind(s.someOld(y)))
	}
	return l
}

// R4: what is handed in stays as it is, its spare room too, whoever writes into what was told.
func TestHandedInStays(t *testing.T) {
	s := source(11)
	placed := 0
	for _, x := range s.mixed(150) {
		given := x.roomy()
		want := given.whole()
		got, e := given.run()
		if given.whole() != want {
			t.Fatalf("what was handed in is changed: %s", given)
		}
		if e == api.OK {
			placed++
		}
		spoilTree(got)
		if given.whole() != want {
			t.Fatalf("what was handed in is changed by who writes into what was told: %s", given)
		}
	}
	if placed < 300 {
		t.Error("too few:", placed)
	}
}

// R4: what is told stays, whatever becomes of what was handed in, or of what was told later.
func TestAnswersAreNew(t *testing.T) {
	s := source(12)
	for _, x := range s.mixed(100) {
		given := x.roomy()
		first, e := given.run()
		if e != api.OK {
			continue
		}
		want := wholeTree(first)
		second, _ := given.run()
		third, _ := given.behind(first).run()
		spoilTree(second)
		spoilTree(third)
		if wholeTree(first) != want {
			t.Fatalf("%s: what was told is changed by what was told later", x)
		}
		for _, n := range given.g.Nodes {
			spoil(n.Context, api.Pin{Name: "spoilt"})
			spoil(n.Edges, api.Edge{Label: "spoilt", To: 9})
		}
		packs := api.Tree{}
		for _, p := range given.packs {
			packs.Dirs = append(packs.Dirs, api.Dir{Pack: p})
		}
		spoilTree(packs)
		if given.old != nil {
			spoilTree(*given.old)
		}
		if wholeTree(first) != want {
			t.Fatalf("%s: what was told is changed by what was handed in", x)
		}
	}
}

// R4: no two lists of one answer share memory: whoever writes into one of them, and into its spare room, changes no other one.
func TestListsShareNothing(t *testing.T) {
	// x stands three times, with all that a package has.
	x := of("root: a 1, b 2, c 3, x 5", "a 1: x 4", "b 1: x 4", "c 1: x 4", "x 1", "x 2")
	x.packs[4].Deps, x.packs[4].Peers, x.packs[4].Optional = many(3), many(6)[3:], many(9)[6:]
	x = x.roomy()
	count := func() int {
		got, _ := x.run()
		return len(lists(got))
	}()
	if count < 50 {
		t.Fatal("too few lists:", count)
	}
	for i := range count {
		got, _ := x.run()
		want := seen(got)
		lists(got)[i].spoil()
		for j, s := range seen(got) {
			if i != j && s != want[j] && !lists(got)[i].holds(j) {
				t.Errorf("list %d is changed by who writes into list %d", j, i)
			}
		}
	}
}

// list is a list of an answer: how it is told, and how it is written over; inner is the numbers of the lists in it.
type list struct {
	text  func() string
	spoil func()
	inner []int
}

func (l list) holds(i int) bool { return slices.Contains(l.inner, i) }

// seen is the texts of all lists of a tree.
func seen(t api.Tree) []string {
	var l []string
	for _, x := range lists(t) {
		l = append(l, x.text())
	}
	return l
}

// lists is all lists of a tree but the list of its directories.
func lists(t api.Tree) []list {
	var l []list
	for _, d := range t.Dirs {
		l = append(l, listOf(d.Path, "spoilt"))
		for _, deps := range listsOf(&d.Pack) {
			l = append(l, listOf(*deps, api.Dep{Name: "spoilt"}))
			outer := len(l) - 1
			for _, d := range *deps {
				l[outer].inner = append(l[outer].inner, len(l))
				l = append(l, listOf(d.Range, api.Span{Hi: version(7, 7, 7)}))
				// A list of Deps tells of its ranges too.
				l[len(l)-1].inner = append(l[len(l)-1].inner, outer)
			}
		}
	}
	return l
}

func listOf[T any](l []T, with T) list {
	return list{text: func() string { return fmt.Sprint(l[:cap(l)]) }, spoil: func() { spoil(l, with) }}
}

// R4: the texts of an answer stand neither in the memory of what was handed in nor in that of another answer.
func TestTextsAreNew(t *testing.T) {
	x := of("root: left 1, right 2", "left 1: pad 3", "right 1: pad 4", "pad 1", "pad 2")
	for i := range x.packs {
		x.packs[i].Name = string([]byte(x.packs[i].Name))
	}
	first, _ := x.run()
	second, _ := x.behind(first).run()
	at := map[*byte]string{}
	meet := func(what, s string) {
		t.Helper()
		if other, some := at[unsafe.StringData(s)]; some && s != "" {
			t.Errorf("%s stands where %s does", what, other)
		}
		at[unsafe.StringData(s)] = what
	}
	for i, n := range x.g.Nodes {
		at[unsafe.StringData(n.Name)], at[unsafe.StringData(x.packs[i].Name)] = "a node's name", "a pack's name"
		for _, e := range n.Edges {
			at[unsafe.StringData(e.Label)] = "a label"
		}
		for _, d := range x.packs[i].Deps {
			at[unsafe.StringData(d.Name)] = "a name in a pack"
		}
	}
	for i, got := range []api.Tree{first, second} {
		for j, d := range got.Dirs {
			what := fmt.Sprintf("of answer %d, directory %d, ", i, j)
			for _, name := range d.Path {
				meet(what+"a name of its path", name)
			}
			meet(what+"its pack's name", d.Pack.Name)
			for _, d := range d.Pack.Deps {
				meet(what+"what it needs", d.Name)
			}
		}
	}
}

// R4: nil and empty lists are one.
func TestNilAndEmpty(t *testing.T) {
	x := chapter()
	for i := range x.g.Nodes {
		n, p := &x.g.Nodes[i], &x.packs[i]
		n.Context = []api.Pin{}
		if len(n.Edges) == 0 {
			n.Edges = []api.Edge{}
		}
		for _, l := range listsOf(p) {
			if len(*l) == 0 {
				*l = make([]api.Dep, 0, 5)
			}
		}
	}
	x.stands(t, "empty lists", "a 1", "b 3", "c 2", "c/b 4")
	y := chapter().liking("a 1", "a/b 3")
	y.old.Dirs[0].Path, y.old.Dirs[2].Pack.Deps = []string{}, []api.Dep{}
	y.stands(t, "empty lists in the old tree", "a 1", "a/b 3", "b 4", "c 2")
	of("root").changed(func(x *task) { x.g.Nodes[0].Edges = make([]api.Edge, 0, 3) }).stands(t, "no edges")
}

// R3: the root of an answer has nothing.
func TestRoot(t *testing.T) {
	s := source(13)
	for _, x := range s.solutions(100) {
		got, e := x.run()
		if e != api.OK {
			continue
		}
		d := got.Dirs[0]
		if len(d.Path) != 0 || d.Node != 0 || fmt.Sprint(d.Pack) != fmt.Sprint(api.Package{}) {
			t.Fatalf("the root: %v", d)
		}
	}
}

// R5: what is told is the same each time it is asked, whatever room there is.
func TestSameAgain(t *testing.T) {
	s := source(14)
	for _, x := range s.mixed(150) {
		first, e := x.run()
		for _, y := range []task{x, x.roomy(), x.clone()} {
			if again, f := y.run(); f != e || flat(again) != flat(first) {
				t.Fatalf("%s: %s, error %d, then %s, error %d", x, flat(first), e, flat(again), f)
			}
		}
	}
}

// The limits and errors of this layer.
func TestLimits(t *testing.T) {
	if api.MaxDirs != 256 || api.MaxPath != 1024 || api.MaxNodes != 128 || api.OK != 0 || api.ErrArg != 1 || api.ErrGraph != 33 || api.ErrTooLong != 40 || api.ErrTooDeep != 41 || api.ErrTree != 42 {
		t.Error("limits:", api.MaxDirs, api.MaxPath, api.MaxNodes, api.OK, api.ErrArg, api.ErrGraph, api.ErrTooLong, api.ErrTooDeep, api.ErrTree)
	}
}
