package walkup_test

import (
	"fmt"
	"math"
	"slices"
	"strconv"
	"strings"
	"testing"

	"halyard/api"
	"halyard/disk"
	"halyard/image"
	"halyard/span"
	"halyard/tree"
	"halyard/walkup"
)

func version(major, minor, patch int) api.Version {
	return api.Version{Major: major, Minor: minor, Patch: patch}
}

// names is the path of a text, with a blank between each two names; the empty text is the root's.
func names(text string) []string { return strings.Fields(text) }

// dir is a directory with a package of its last name and of that major version; its node is of no matter.
func dir(major int, path ...string) api.Dir {
	return api.Dir{Path: path, Pack: api.Package{Name: path[len(path)-1], Version: version(major, 0, 0)}, Node: 1}
}

// grown is a tree of the root and the directories of those texts: the names of a path, and perhaps the major version behind a colon; else it is 1.
func grown(texts ...string) api.Tree {
	t := api.Tree{Dirs: []api.Dir{{}}}
	for _, s := range texts {
		path, major, some := strings.Cut(s, ":")
		n := 1
		if some {
			n = number(major)
		}
		t.Dirs = append(t.Dirs, dir(n, names(path)...))
	}
	return t
}

func number(s string) int {
	n, err := strconv.Atoi(s)
	if err != nil {
		panic(s)
	}
	return n
}

// chapter is the chapter's tree: the root 0, a 1, b 2, and b in the modules of a 3.
func chapter() api.Tree { return grown("a", "b", "a b") }

// chain is a tree in which each of those names stands in the modules of the one ahead of it.
func chain(path ...string) api.Tree {
	t := api.Tree{Dirs: []api.Dir{{}}}
	for i := range path {
		t.Dirs = append(t.Dirs, dir(1, slices.Clone(path[:i+1])...))
	}
	return t
}

// laid is a tree of directories with those paths, the root's too, and nothing else.
func laid(paths ...[]string) api.Tree {
	var t api.Tree
	for _, p := range paths {
		t.Dirs = append(t.Dirs, api.Dir{Path: p})
	}
	return t
}

// drawn is the graph of those nodes: a name and a major version, and the labels and numbers of the edges behind a colon, such as `a 1: b 2, c 3`; the root is `root: a 1`.
func drawn(texts ...string) api.Graph {
	var g api.Graph
	for _, s := range texts {
		head, led, some := strings.Cut(s, ": ")
		var n api.Node
		if name, major, ok := strings.Cut(head, " "); ok {
			n.Name, n.Version = name, version(number(major), 0, 0)
		}
		if some {
			n.Edges = edges(led)
		}
		g.Nodes = append(g.Nodes, n)
	}
	return g
}

// edges is the edges of a text, with `, ` between each two: a label and a number.
func edges(text string) []api.Edge {
	var l []api.Edge
	for s := range strings.SplitSeq(text, ", ") {
		label, to, _ := strings.Cut(s, " ")
		l = append(l, api.Edge{Label: label, To: number(to)})
	}
	return l
}

// file and folder are what stands at a path of a disk.
func file(path string) api.File { return api.File{Path: path, Data: "x"} }

func folder(path string) api.File { return api.File{Path: path, Dir: true} }

// load is a disk with these files and directories, which must be such that a disk may have them.
func load(t *testing.T, l ...api.File) *disk.Disk {
	t.Helper()
	d, e := disk.Load(l)
	if e != api.OK {
		t.Fatalf("Load(%v): %v", l, e)
	}
	return d
}

// stored is a disk with the directories of those paths, each with a file `package`, and with all directories that they stand in.
func stored(t *testing.T, paths ...string) *disk.Disk {
	t.Helper()
	d := disk.New()
	for _, text := range paths {
		parts := strings.Split(text, "/")
		for i := 2; i <= len(parts); i++ {
			if e := d.Mkdir(strings.Join(parts[:i], "/")); e != api.OK && e != api.ErrThere {
				t.Fatal(text, e)
			}
		}
		if e := d.Write(text+"/package", "x"); e != api.OK {
			t.Fatal(text, e)
		}
	}
	return d
}

// project is the files of a project with that tree, of which each directory is a node of its own that leads to all that it finds.
func project(t *testing.T, x api.Tree) []api.File {
	t.Helper()
	x = clone(x)
	slices.SortFunc(x.Dirs, func(a, b api.Dir) int { return strings.Compare(tree.Text(a.Path), tree.Text(b.Path)) })
	var g api.Graph
	for i, d := range x.Dirs {
		n := api.Node{Name: d.Pack.Name, Version: d.Pack.Version}
		for _, label := range few {
			if at := modelLook(x, i, label); at > 0 {
				n.Edges = append(n.Edges, api.Edge{Label: label, To: at})
			}
		}
		x.Dirs[i].Node, g.Nodes = i, append(g.Nodes, n)
	}
	l, e := image.Files(api.State{Graph: g, Tree: x})
	if e != api.OK {
		t.Fatalf("Files of %s: %v", flat(x), e)
	}
	return l
}

func listsOf(p *api.Package) []*[]api.Dep { return []*[]api.Dep{&p.Deps, &p.Peers, &p.Optional} }

// clone is a tree in memory of its own, but for what packages want.
func clone(t api.Tree) api.Tree {
	t.Dirs = slices.Clone(t.Dirs)
	for i := range t.Dirs {
		t.Dirs[i].Path = slices.Clone(t.Dirs[i].Path)
	}
	return t
}

// cloneGraph is a graph in memory of its own.
func cloneGraph(g api.Graph) api.Graph {
	g.Nodes = slices.Clone(g.Nodes)
	for i := range g.Nodes {
		g.Nodes[i].Edges = slices.Clone(g.Nodes[i].Edges)
	}
	return g
}

// flat is a tree, be it such as may be or not, as a text.
func flat(t api.Tree) string {
	var l []string
	for i, d := range t.Dirs {
		l = append(l, fmt.Sprintf("%d %q %q %v", i, d.Path, d.Pack.Name, d.Pack.Version))
	}
	return strings.Join(l, "; ")
}

// flatGraph is a graph, be it such as may be or not, as a text.
func flatGraph(g api.Graph) string {
	var l []string
	for i, n := range g.Nodes {
		s := fmt.Sprintf("%d %q %v", i, n.Name, n.Version)
		for _, e := range n.Edges {
			s += fmt.Sprintf(" to %q %d", e.Label, e.To)
		}
		l = append(l, s)
	}
	return strings.Join(l, "; ")
}

// short cuts a text that is too long to tell.
func short(s string) string {
	if len(s) > 300 {
		return s[:300] + " and so on"
	}
	return s
}

// looks tells a fault unless a lookup finds just that place.
func looks(t *testing.T, x api.Tree, from int, label string, want int) {
	t.Helper()
	if got := walkup.Look(x, from, label); got != want {
		t.Errorf("Look(%d, %q) in %s: %d, not %d", from, short(label), short(flat(x)), got, want)
	}
}

// meets tells a fault unless a lookup on a disk finds just that text; the empty one: nothing.
func meets(t *testing.T, d *disk.Disk, from, label, want string) {
	t.Helper()
	if got, ok := walkup.OnDisk(d, from, label); got != want || ok != (want != "") {
		t.Errorf("OnDisk(%q, %q): %q, %v, not %q", short(from), short(label), short(got), ok, short(want))
	}
}

// maps tells a fault unless each directory is just that node.
func maps(t *testing.T, x api.Tree, g api.Graph, want ...int) {
	t.Helper()
	if got, e := walkup.Map(x, g); e != api.OK || !slices.Equal(got, want) {
		t.Errorf("Map of %s and %s: %v, error %d, not %v", short(flat(x)), short(flatGraph(g)), got, e, want)
	}
}

// refuses tells a fault unless Map answers that error and nothing beside it.
func refuses(t *testing.T, what string, x api.Tree, g api.Graph, want api.Errno) {
	t.Helper()
	if got, e := walkup.Map(x, g); e != want || len(got) != 0 {
		t.Errorf("Map with %s of %s and %s: %v, error %d, not %d", what, short(flat(x)), short(flatGraph(g)), got, e, want)
	}
}

// The model: lookups by the tests' own means.

// may tells whether a name may be.
func may(name string) bool {
	for i, c := range []byte(name) {
		if (c < 'a' || c > 'z') && (i == 0 || c != '-' && (c < '0' || c > '9')) {
			return false
		}
	}
	return len(name) >= 1 && len(name) <= 16
}

// modelLook holds each place against the path from which the lookup comes: what stands in the modules of it, or of one in which it stands, is found if none is nearer.
func modelLook(t api.Tree, from int, label string) int {
	if from < 0 || from >= len(t.Dirs) || !may(label) {
		return -1
	}
	path, found := t.Dirs[from].Path, -1
	for i, d := range t.Dirs {
		n := len(d.Path) - 1
		if n < 0 || n > len(path) || d.Path[n] != label || fmt.Sprintf("%q", d.Path[:n]) != fmt.Sprintf("%q", path[:n]) {
			continue
		}
		if found < 0 || len(d.Path) > len(t.Dirs[found].Path) {
			found = i
		}
	}
	return found
}

// modelParts is the names of a path's text; false, if it is that of none.
func modelParts(text string) ([]string, bool) {
	if text == "/" {
		return nil, true
	}
	parts := strings.Split(text, "/")
	if parts[0] != "" || len(parts)%2 == 0 || len(parts) < 3 {
		return nil, false
	}
	var path []string
	for i := 1; i < len(parts); i += 2 {
		if parts[i] != "modules" || !may(parts[i+1]) {
			return nil, false
		}
		path = append(path, parts[i+1])
	}
	return path, true
}

// modelOnDisk makes a tree of all files `package`, whose directories are then looked up as those of a tree.
func modelOnDisk(d *disk.Disk, from, label string) string {
	path, ok := modelParts(from)
	if d == nil || !ok {
		return ""
	}
	x := laid(path)
	texts := []string{""}
	for _, f := range d.All() {
		text, some := strings.CutSuffix(f.Path, "/package")
		at, ok := modelParts(text)
		if some && ok && !f.Dir {
			x.Dirs, texts = append(x.Dirs, api.Dir{Path: at}), append(texts, text)
		}
	}
	// The lookup comes from a path of no package, so that it is not found itself.
	x.Dirs[0].Path = append(slices.Clone(path), "From")
	if at := modelLook(x, 0, label); at >= 0 {
		return texts[at]
	}
	return ""
}

// modelMap takes directories in as nodes till there are no more to take; what comes of it hangs on no order.
func modelMap(t api.Tree, g api.Graph) ([]int, api.Errno) {
	if tree.Check(t) != api.OK {
		return nil, api.ErrTree
	}
	for _, n := range g.Nodes {
		for _, e := range n.Edges {
			if e.To < 1 || e.To > len(g.Nodes)-1 {
				return nil, api.ErrGraph
			}
		}
	}
	if len(g.Nodes) == 0 {
		return nil, api.ErrGraph
	}
	type pair struct{ dir, node int }
	all := map[pair]bool{{0, 0}: true}
	for more := true; more; {
		more = false
		for _, p := range pairs(all) {
			for _, e := range g.Nodes[p.node].Edges {
				at := modelLook(t, p.dir, e.Label)
				if at < 0 || fmt.Sprint(t.Dirs[at].Pack.Name, t.Dirs[at].Pack.Version) != fmt.Sprint(g.Nodes[e.To].Name, g.Nodes[e.To].Version) {
					return nil, api.ErrTree
				}
				if !all[pair{at, e.To}] {
					all[pair{at, e.To}], more = true, true
				}
			}
		}
	}
	told := make([]int, len(t.Dirs))
	for i := range told {
		told[i] = -1
	}
	for p := range all {
		if told[p.dir] >= 0 {
			return nil, api.ErrTree
		}
		told[p.dir] = p.node
	}
	return told, api.OK
}

// pairs is the keys of a set, which may grow meanwhile.
func pairs[T comparable](set map[T]bool) []T {
	var l []T
	for p := range set {
		l = append(l, p)
	}
	return l
}

// mapsAsModel tells a fault unless Map answers as the model does, and what that is.
func mapsAsModel(t *testing.T, x api.Tree, g api.Graph) api.Errno {
	t.Helper()
	want, e := modelMap(x, g)
	if e == api.OK {
		maps(t, x, g, want...)
	} else {
		refuses(t, "something wrong", x, g, e)
	}
	return e
}

// source is numbers that look like chance, and are the same each time.
type source uint64

func (s *source) below(n int) int {
	*s = *s*6364136223846793005 + 1442695040888963407
	return int(uint64(*s) >> 33 % uint64(n))
}

func (s *source) pick(texts ...string) string { return texts[s.below(len(texts))] }

// few is names that are near to one another.
var few = []string{"a", "a-", "a-b", "a0", "aa", "b", "modules", "package"}

// someTree is a tree that may be.
func (s *source) someTree() api.Tree {
	t := grown()
	for range s.below(30) {
		up := t.Dirs[s.below(len(t.Dirs))].Path
		path := append(slices.Clone(up), s.pick(few...))
		if tree.Find(t, path) < 0 {
			t.Dirs = append(t.Dirs, dir(s.below(2), path...))
		}
	}
	return t
}

// shuffled is the same directories in another order, be it such as may be or not.
func (s *source) shuffled(t api.Tree) api.Tree {
	var out api.Tree
	for _, d := range clone(t).Dirs {
		out.Dirs = slices.Insert(out.Dirs, s.below(len(out.Dirs)+1), d)
	}
	return out
}

// thinned is a tree without some of its directories, and with some of them twice.
func (s *source) thinned(t api.Tree) api.Tree {
	out := s.shuffled(t)
	for i := 0; i < len(out.Dirs); i++ {
		switch s.below(6) {
		case 0:
			out.Dirs = slices.Delete(out.Dirs, i, i+1)
		case 1:
			out.Dirs = append(out.Dirs, out.Dirs[i])
			if len(out.Dirs) > 100 {
				return out
			}
		}
	}
	return out
}

// anyTree is a tree of any directories, few of which may be.
func (s *source) anyTree() api.Tree {
	var t api.Tree
	name := func() string { return s.pick(append(noNames(), "a", "b", "b", "a", "A", "")...) }
	for range s.below(12) {
		var d api.Dir
		for range s.below(4) {
			d.Path = append(d.Path, name())
		}
		d.Pack = api.Package{Name: name(), Version: version(s.below(3)-1, 0, 0)}
		d.Node = []int{0, 1, -1, math.MinInt, math.MaxInt}[s.below(5)]
		t.Dirs = append(t.Dirs, d)
	}
	return t
}

// someGraph is a graph to which a tree may be mapped: each directory is a node of its own, with edges to what it finds by some names.
func (s *source) someGraph(t api.Tree) api.Graph {
	var g api.Graph
	for i, d := range t.Dirs {
		n := api.Node{Name: d.Pack.Name, Version: d.Pack.Version}
		for _, label := range few {
			if at := modelLook(t, i, label); at > 0 && s.below(3) > 0 {
				n.Edges = append(n.Edges, api.Edge{Label: label, To: at})
			}
		}
		g.Nodes = append(g.Nodes, n)
	}
	return g
}

// spoilt is a graph that differs a little.
func (s *source) spoilt(g api.Graph) api.Graph {
	g = cloneGraph(g)
	n := &g.Nodes[s.below(len(g.Nodes))]
	switch k := s.below(8); {
	case k == 0:
		n.Version.Major++
	case k == 1:
		n.Name = s.pick(few...)
	case k == 2:
		n.Edges = append(n.Edges, api.Edge{Label: s.pick(few...), To: s.below(len(g.Nodes))})
	case len(n.Edges) == 0:
		return g
	case k == 3:
		n.Edges[s.below(len(n.Edges))].To = []int{0, -1, len(g.Nodes), math.MinInt, math.MaxInt}[s.below(5)]
	case k == 4:
		n.Edges[s.below(len(n.Edges))].Label = s.pick(append(noNames(), few...)...)
	case k == 5:
		at := s.below(len(n.Edges))
		n.Edges = slices.Delete(n.Edges, at, at+1)
	default:
		// To another node of that name, if there is one.
		e := &n.Edges[s.below(len(n.Edges))]
		for i := range g.Nodes {
			if i != e.To && i > 0 && g.Nodes[i].Name == e.Label {
				e.To = i
				break
			}
		}
	}
	return g
}

// anyGraph is a graph of any nodes, few of which may be.
func (s *source) anyGraph() api.Graph {
	var g api.Graph
	name := func() string { return s.pick(append(noNames(), few...)...) }
	for range s.below(8) {
		n := api.Node{Name: name(), Version: version(s.below(3)-1, 0, 0)}
		for range s.below(4) {
			n.Edges = append(n.Edges, api.Edge{Label: name(), To: []int{s.below(8), s.below(8), -1, 1000, math.MinInt, math.MaxInt}[s.below(6)]})
		}
		g.Nodes = append(g.Nodes, n)
	}
	return g
}

// noNames is names that may not be.
func noNames() []string {
	return []string{"", "A", "aB", "1a", "-a", "a_b", "a.b", "a/b", "/", "a/", "/a", "a b", " a", "a\n", "\x00", "\xff", "\u00e9", "..", ".", "a\u00e9", "abcdefghijklmnopq", strings.Repeat("a", 5000)}
}

// noPaths is texts that are those of no path.
func noPaths() []string {
	return []string{"", "a", "modules", "modules/a", "//", "/modules", "/modules/", "/modules/a/", "/modules//a", "//modules/a", "/modules/A", "/modules/a/b", "/modules/a/modules", "/modules/a/modules/", "/a", "/module/a", "/modules/a ", " /modules/a", "/modules/a\n", "/modules/abcdefghijklmnopq", "/modules/a/package", "/package", ".", "/.", "/modules/..", "\x00", "\xff", "/Modules/a", "/modules/1"}
}

// noPlaces is places that a tree of so many directories has not.
func noPlaces(count int) []int {
	return []int{-1, -2, -count - 1, math.MinInt, math.MinInt32, count, count + 1, math.MaxInt32, math.MaxInt}
}

// wanted is Deps of one name, with all versions.
func wanted(name string) []api.Dep { return []api.Dep{{Name: name, Range: span.All()}} }
