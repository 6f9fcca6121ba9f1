package walkup_test

import (
	"fmt"
	"slices"
	"strings"
	"testing"
	"unsafe"

	"halyard/api"
	"halyard/disk"
	"halyard/tree"
	"halyard/walkup"
)

// R1: every call ends and none panics, at all arguments, and answers as the model does.
func TestEveryCallEnds(t *testing.T) {
	s := source(7)
	for i := 0; i < 2000 && !t.Failed(); i++ {
		x, g := s.anyTree(), s.anyGraph()
		for _, from := range append(noPlaces(len(x.Dirs)), 0, s.below(12), s.below(12)) {
			for _, label := range []string{"a", "b", s.pick(noNames()...)} {
				looks(t, x, from, label, modelLook(x, from, label))
			}
		}
		mapsAsModel(t, x, g)
		mapsAsModel(t, s.someTree(), g)
		mapsAsModel(t, grown("a", "b"), g)
		text := s.pick(append(noPaths(), "/", "/modules/a")...) + s.pick("", "", "/", "/modules/a", "\x00")
		meets(t, disk.New(), text, s.pick(append(noNames(), few...)...), "")
	}
	mapsAsModel(t, api.Tree{}, api.Graph{})
	meets(t, new(disk.Disk), "/", "a", "")
	meets(t, nil, "", "", "")
}

// R1: great things are told soon enough.
func TestGreatThings(t *testing.T) {
	const many = 1 << 17
	wide := api.Tree{Dirs: []api.Dir{{}}}
	var twice api.Tree
	for i := range many {
		wide.Dirs = append(wide.Dirs, dir(1, fmt.Sprintf("n%d", i)))
		twice.Dirs = append(twice.Dirs, dir(1, "a", "b"))
	}
	looks(t, wide, many, "n7", 8)
	looks(t, wide, many, "x", -1)
	looks(t, twice, many-1, "b", 0)
	looks(t, twice, many-1, "a", -1)
	refuses(t, "too many directories", wide, drawn("root"), api.ErrTree)
	refuses(t, "too many directories", twice, drawn("root"), api.ErrTree)
	deep := laid(slices.Repeat([]string{"a"}, many), names("a a b"), nil)
	looks(t, deep, 0, "b", 1)
	looks(t, deep, 0, "a", 0)
	looks(t, deep, 0, "c", -1)
	looks(t, grown("a"), 1, strings.Repeat("a", 1<<24), -1)
	d := stored(t, "/modules/a", "/modules/a/modules/b")
	meets(t, d, row("a", 1<<20), "b", "/modules/a/modules/b")
	meets(t, d, row("a", 1<<20), "c", "")
	meets(t, d, row("a", 1<<20)+"/modules/", "a", "")
	meets(t, d, "/", strings.Repeat("a", 1<<24), "")
	// A graph of many nodes and edges, with a tree as great as may be.
	g := drawn("root: a 1", "a 1: a 1", "b 1")
	for range many {
		g.Nodes = append(g.Nodes, api.Node{Name: "b", Edges: edges("b 2, a 1")})
		g.Nodes[0].Edges = append(g.Nodes[0].Edges, api.Edge{Label: "a", To: 1})
	}
	maps(t, grown("a"), g, 0, 1)
	g.Nodes[many].Edges[1].To = len(g.Nodes)
	refuses(t, "an edge past the end", grown("a"), g, api.ErrGraph)
}

// full is a tree with as many directories as may be, in rows as long as may be, and its graph, in which each directory is a node that has edges to all that it finds by some names.
func full() (api.Tree, api.Graph) {
	x := chain(slices.Repeat([]string{"a"}, 102)...)
	for i := 0; len(x.Dirs) <= api.MaxDirs; i++ {
		x.Dirs = append(x.Dirs, dir(1, append(slices.Clone(x.Dirs[i%100].Path), fmt.Sprintf("b%d", i/50))...))
	}
	var g api.Graph
	for i, d := range x.Dirs {
		n := api.Node{Name: d.Pack.Name, Version: d.Pack.Version}
		for _, label := range []string{"a", "b0", "b1", "b2", "b3"} {
			if at := modelLook(x, i, label); at > 0 {
				n.Edges = append(n.Edges, api.Edge{Label: label, To: at})
			}
		}
		g.Nodes = append(g.Nodes, n)
	}
	return x, g
}

// R1: a tree as great as may be is told soon enough; each of its directories is its node.
func TestFull(t *testing.T) {
	x, g := full()
	if len(x.Dirs) != 257 || tree.Check(x) != api.OK {
		t.Fatal(len(x.Dirs), tree.Check(x))
	}
	var want []int
	for i := range x.Dirs {
		want = append(want, i)
	}
	maps(t, x, g, want...)
	for i := range g.Nodes[1:] {
		other := cloneGraph(g)
		other.Nodes[i+1].Version.Minor++
		refuses(t, "another version", x, other, api.ErrTree)
	}
}

// inRoom is a list with marks in its spare room.
func inRoom[T any](l []T, mark T) []T { return slices.Concat(l, []T{mark, mark, mark})[:len(l)] }

// roomy is a tree with marks in the spare room of its lists, at every depth.
func roomy(t api.Tree) api.Tree {
	room := api.Tree{Dirs: inRoom(t.Dirs, api.Dir{Node: 77})}
	for i := range room.Dirs {
		d := &room.Dirs[i]
		d.Path = inRoom(d.Path, "mark")
		for _, l := range listsOf(&d.Pack) {
			*l = inRoom(*l, api.Dep{Name: "mark"})
		}
	}
	return room
}

// whole is a tree and its spare room, at every depth, as a text.
func whole(t api.Tree) string {
	s := ""
	for _, d := range t.Dirs[:cap(t.Dirs)] {
		s += fmt.Sprintf("%q %q %v %d ", d.Path[:cap(d.Path)], d.Pack.Name, d.Pack.Version, d.Node)
		for _, l := range listsOf(&d.Pack) {
			s += fmt.Sprint((*l)[:cap(*l)])
		}
	}
	return s
}

// roomyGraph is a graph with marks in the spare room of its lists, at both depths.
func roomyGraph(g api.Graph) api.Graph {
	room := api.Graph{Nodes: inRoom(g.Nodes, api.Node{Name: "mark"})}
	for i, n := range room.Nodes {
		room.Nodes[i].Context, room.Nodes[i].Edges = inRoom(n.Context, api.Pin{Name: "mark"}), inRoom(n.Edges, api.Edge{Label: "mark", To: 7})
	}
	return room
}

// wholeGraph is a graph and its spare room, at both depths, as a text.
func wholeGraph(g api.Graph) string {
	s := ""
	for _, n := range g.Nodes[:cap(g.Nodes)] {
		s += fmt.Sprint(n.Name, n.Version, n.Context[:cap(n.Context)], n.Edges[:cap(n.Edges)])
	}
	return s
}

// spoil writes over a list and its spare room.
func spoil[T any](l []T, with T) {
	l = l[:cap(l)]
	for i := range l {
		l[i] = with
	}
}

// R4: what is handed in stays as it is, its spare room too, whoever writes into what was told.
func TestHandedInStays(t *testing.T) {
	s := source(8)
	for i := 0; i < 300 && !t.Failed(); i++ {
		x := s.someTree()
		g := s.someGraph(x)
		for _, x := range []api.Tree{x, s.shuffled(x), s.thinned(x), s.anyTree()} {
			for _, g := range []api.Graph{g, s.spoilt(g), s.anyGraph()} {
				given, led := roomy(x), roomyGraph(g)
				want, wantLed := whole(given), wholeGraph(led)
				for from := -1; from <= len(x.Dirs); from++ {
					for _, label := range []string{"a", "b", "zz", "A"} {
						walkup.Look(given, from, label)
					}
				}
				l, _ := walkup.Map(given, led)
				spoil(l, -99)
				if whole(given) != want || wholeGraph(led) != wantLed {
					t.Fatalf("what was handed in is changed: %s, %s", flat(given), flatGraph(led))
				}
			}
		}
	}
}

// R4: a disk that is looked at stays as it is: what stands there, what it noted, how long it has power.
func TestDiskStays(t *testing.T) {
	s := source(9)
	for i := 0; i < 200 && !t.Failed(); i++ {
		d := s.someDisk(t)
		d.Cut(2)
		files, raws := d.All(), d.Raws()
		for _, f := range files {
			for _, label := range []string{"a", "b", "zz", "A"} {
				walkup.OnDisk(d, f.Path, label)
			}
		}
		if !slices.Equal(d.All(), files) || !slices.Equal(d.Raws(), raws) || d.Down() {
			t.Fatal("the disk is changed")
		}
		if d.Mkdir("/x") != api.OK || d.Down() || d.Mkdir("/y") != api.OK || !d.Down() {
			t.Fatal("the power is changed")
		}
	}
}

// R4: what is answered is new memory: whoever writes into it changes nothing of what was told before, or is told later; it stays when what was handed in is changed.
func TestAnswersAreNew(t *testing.T) {
	x, g := full()
	first, _ := walkup.Map(x, g)
	want := slices.Clone(first)
	second, _ := walkup.Map(x, g)
	spoil(second, -99)
	if !slices.Equal(first, want) {
		t.Error("what was told is changed:", first)
	}
	maps(t, x, g, want...)
	for i := range x.Dirs {
		x.Dirs[i] = api.Dir{Node: 99}
		g.Nodes[i] = api.Node{}
	}
	if !slices.Equal(first, want) {
		t.Error("what was told is changed by what was handed in:", first)
	}
}

// R4: a text that OnDisk tells stands neither in the memory of what was handed in nor in that of another answer.
func TestTextsAreNew(t *testing.T) {
	d := stored(t, "/modules/left-pad", "/modules/left-pad/modules/abc")
	from, label := string([]byte("/modules/left-pad/modules/abc")), string([]byte("abc"))
	times := map[*byte]int{}
	for _, asked := range []string{label, "left-pad", label, "left-pad"} {
		text, ok := walkup.OnDisk(d, from, asked)
		if !ok {
			t.Fatal(asked)
		}
		at := unsafe.StringData(text)
		for _, in := range []string{from, asked} {
			begin, n := uintptr(unsafe.Pointer(unsafe.StringData(in))), uintptr(unsafe.Pointer(at))
			if n >= begin && n < begin+uintptr(len(in)) {
				t.Errorf("%s stands in what was handed in", text)
			}
		}
		if times[at]++; times[at] > 1 {
			t.Errorf("%s stands where another answer does", text)
		}
	}
}

// R4: nil and empty lists are one.
func TestNilAndEmpty(t *testing.T) {
	for _, path := range [][]string{nil, {}, make([]string, 0, 5)} {
		for _, led := range [][]api.Edge{nil, {}, make([]api.Edge, 0, 5)} {
			x, g := grown("a"), drawn("root: a 1", "a 1")
			x.Dirs[0].Path, g.Nodes[1].Edges, g.Nodes[1].Context = path, led, []api.Pin{}
			looks(t, x, 0, "a", 1)
			looks(t, x, 0, "b", -1)
			maps(t, x, g, 0, 1)
		}
	}
	for _, dirs := range [][]api.Dir{nil, {}, make([]api.Dir, 0, 5)} {
		looks(t, api.Tree{Dirs: dirs}, 0, "a", -1)
		refuses(t, "no directories", api.Tree{Dirs: dirs}, drawn("root"), api.ErrTree)
	}
}

// R5: what is told is the same each time it is asked, whatever room there is.
func TestSameAgain(t *testing.T) {
	s := source(10)
	for i := 0; i < 300 && !t.Failed(); i++ {
		x := s.someTree()
		g := s.someGraph(x)
		for _, x := range []api.Tree{x, s.thinned(x), s.anyTree()} {
			room := roomy(x)
			for from := range x.Dirs {
				for _, label := range few {
					looks(t, room, from, label, walkup.Look(x, from, label))
				}
			}
			l, e := walkup.Map(x, g)
			if again, f := walkup.Map(room, roomyGraph(g)); !slices.Equal(again, l) || f != e {
				t.Fatalf("Map tells %v, %v, then %v, %v", l, e, again, f)
			}
		}
	}
}

// The limits and errors of this layer.
func TestLimits(t *testing.T) {
	if api.MaxDirs != 256 || api.MaxPath != 1024 || api.MaxDiskPath != 4096 || api.MaxName != 16 || api.OK != 0 || api.ErrTree != 42 || api.ErrGraph != 33 {
		t.Error("limits:", api.MaxDirs, api.MaxPath, api.MaxDiskPath, api.MaxName, api.OK, api.ErrTree, api.ErrGraph)
	}
}
